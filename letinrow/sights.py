"""Rows seen one behind another: a history from each to the next, or a paper of none."""

from letinrow.errors import BadSight
from letinrow.histories import first_astray, history_of, line_of


def sights_ahead(sights):
    """The list, for each sight, of the one ahead of it: at first nobody was served, and the row was bare."""
    return [(0, ())] + list(sights[:-1])


def stretches(served, sights):
    """The list, for each sight, of triples (between, row, elders).

    Between are those who were served since the sight ahead of it, elders the row of that one.
    """
    told = []
    for (before, elders), (many, row) in zip(sights_ahead(sights), sights):
        told.append((served[before:many], row, elders))
    return told


def can_be_seen(served, ahead, sight):
    """Whether a sight can be, behind the one ahead of it, which can be, too."""
    before, elders = ahead
    many, row = sight
    if not before <= many <= len(served):
        return False
    # The sight ahead can be: among those served ahead of it is nobody twice, nor any of the elders. So nobody is
    # twice among all just where nobody is twice in the line, nor in it of those; and all have the elders as it has.
    everybody = line_of(served[:many], row)
    return len(set(everybody)) == len(everybody) and first_astray(everybody, elders) is None


def refuse_bad_sights(served, sights):
    """BadSight of the first one that can't be."""
    for number, (ahead, sight) in enumerate(zip(sights_ahead(sights), sights)):
        if not can_be_seen(served, ahead, sight):
            raise BadSight(number)


def seen_after(friends, served, sights):
    """("deeds", a list with a history for each sight), or ("none", (number, paper)) of the first without one."""
    refuse_bad_sights(served, sights)
    histories = []
    for number, (between, row, elders) in enumerate(stretches(served, sights)):
        word, thing = history_of(friends, between, row, elders=elders)
        if word == "none":
            return ("none", (number, thing))
        histories.append(thing)
    return ("deeds", histories)
