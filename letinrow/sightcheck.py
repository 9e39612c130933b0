"""A small judge of rows seen one behind another: it looks for nothing."""

from letinrow.historycheck import shows_history, shows_never
from letinrow.people import is_number
from letinrow.sights import stretches


def shows_histories(friends, parts, thing):
    """Whether a list has just a history for each of the parts, which stretches told."""
    if len(thing) != len(parts):
        return False
    for (between, row, elders), deeds in zip(parts, thing):
        if not shows_history(friends, between, row, deeds, elders=elders):
            return False
    return True


def shows_none(friends, parts, number, paper):
    """Whether the paper is one of none for the part of that number."""
    if not is_number(number) or not 0 <= number < len(parts):
        return False
    between, row, elders = parts[number]
    return shows_never(friends, between, row, paper, elders=elders)


def shows_seen(friends, served, sights, thing):
    """Whether a thing is a list with a history for each sight, or a pair of a sight's number and its paper."""
    parts = stretches(served, sights)
    if isinstance(thing, list):
        return shows_histories(friends, parts, thing)
    if not isinstance(thing, tuple) or len(thing) != 2:
        return False
    return shows_none(friends, parts, thing[0], thing[1])
