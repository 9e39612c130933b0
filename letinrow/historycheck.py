"""Small judges of histories and of papers of none: they look for nothing."""

from letinrow.deeds import done
from letinrow.errors import BadDeed
from letinrow.people import both_ways, is_name, is_row, last_friend_place


def shows_history(friends, served, row, thing, *, elders=()):
    """Whether a thing is a history of those served and of the row, beginning with the elders."""
    if not isinstance(thing, list) or not all([isinstance(deed, tuple) for deed in thing]):
        return False
    try:
        return done(friends, thing, row=elders) == (tuple(served), tuple(row))
    except BadDeed:
        return False


def is_clause(thing):
    """Whether a thing is a triple of a NAME, something, and a tuple of NAMEs."""
    if not isinstance(thing, tuple) or len(thing) != 3:
        return False
    return is_name(thing[0]) and is_row(thing[2])


def bars_who(known, line, many, who, word, places):
    """Whether those at these places of the line bar who by that word; many of the line were served."""
    place = line.index(who)
    host = last_friend_place(known, line[:place], who)
    behind = [there for there in places if there > place]
    if word == "friend":
        return len(places) == 1 and len(behind) == 1 and (who, line[places[0]]) in known
    if word == "behind":
        return host is None and len(places) == 1 and len(behind) == 1
    if word != "between" or host is None or not places or not host < places[0] < place:
        return False
    # Somebody behind is named just where the last friend was served, and who may have come to the end.
    wanted = 1 if host < many else 0
    return len(places) == 1 + wanted and len(behind) == wanted


def shows_never(friends, served, row, thing, *, elders=()):
    """Whether a thing is a paper of none: newcomers each of whom is barred by others of them, or by elders."""
    if not isinstance(thing, list) or not thing or not all([is_clause(part) for part in thing]):
        return False
    line = tuple(served) + tuple(row)
    whos = [who for who, word, others in thing]
    if len(set(whos)) != len(whos) or not all([who in line and who not in elders for who in whos]):
        return False
    there = {who: place for place, who in enumerate(line) if who in whos or who in elders}
    known = both_ways(friends)
    for who, word, others in thing:
        if not all([other in there for other in others]):
            return False
        if not bars_who(known, line, len(served), who, word, [there[other] for other in others]):
            return False
    return True
