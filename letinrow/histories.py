"""What can have been done where some were served: a history, or a paper of none."""

from letinrow.errors import Astray
from letinrow.loose import gone_and_stayed
from letinrow.people import both_ways, last_friend_place


def line_of(served, row):
    """Those who were served, in order, and the row behind them."""
    return tuple(served) + tuple(row)


def first_astray(line, elders):
    """The first of the elders who isn't in the line, or not in its order; None where there's none."""
    places = {who: place for place, who in enumerate(line)}
    hindmost = -1
    for who in elders:
        if who not in places or places[who] < hindmost:
            return who
        hindmost = places[who]
    return None


def refuse_astray(line, elders):
    """Astray of that one, where there's one."""
    who = first_astray(line, elders)
    if who is not None:
        raise Astray(who)


def traced_back(friends, served, row, elders, waits):
    """The pair of the list of deeds, and of the tuple of the newcomers who are left.

    From the row at the end all go that can; then the last one served is put back to the front, and so on.
    Whoever can go goes at once, since that hinders nobody else from going, then or later. Of waits, a dict,
    each goes only while just so many are served.
    """
    known = both_ways(friends)
    here = tuple(row)
    undone = []
    for many in range(len(served), -1, -1):
        staying = list(elders) + [who for who in waits if waits[who] != many]
        gone, here = gone_and_stayed(known, here, staying)
        undone.extend([("come", who) for who in gone])
        if many > 0:
            undone.append(("serve",))
            here = (served[many - 1],) + here
    return (undone[::-1], tuple([who for who in here if who not in elders]))


def clause(known, line, many, there, who):
    """A triple of a paper of none: by whom of those there who is barred; many of the line were served.

    There are those who are left at the end, none of whom can go. The last friend ahead of who in the line
    is one of them, since who stands behind it. Where that one was served, who couldn't go ahead of its being
    put back either, and nobody behind who went since.
    """
    place = line.index(who)
    host = last_friend_place(known, line[:place], who)
    behind = [other for other in line[place + 1:] if other in there]
    friends_behind = [other for other in behind if (who, other) in known]
    if friends_behind:
        return (who, "friend", (friends_behind[0],))
    if host is None:
        return (who, "behind", (behind[0],))
    between = [other for other in line[host + 1:place] if other in there]
    if host < many:
        return (who, "between", (between[0], behind[0]))
    return (who, "between", (between[0],))


def paper_of(friends, served, row, elders, left):
    """A paper of none with just those left as whos."""
    known = both_ways(friends)
    line = line_of(served, row)
    there = list(left) + list(elders)
    return [clause(known, line, len(served), there, who) for who in left]


def history_of(friends, served, row, *, elders=()):
    """("deeds", a history), or ("none", a paper of none) where there's no history."""
    refuse_astray(line_of(served, row), elders)
    deeds, left = traced_back(friends, served, row, elders, {})
    if left:
        return ("none", paper_of(friends, served, row, elders, left))
    return ("deeds", deeds)


def never_in(friends, served, row, *, elders=()):
    """The tuple, in the line's order, of the newcomers who are left when all go back that can."""
    refuse_astray(line_of(served, row), elders)
    deeds, left = traced_back(friends, served, row, elders, {})
    return left


def times_of(friends, served, row, who, *, elders=()):
    """The rising list of all numbers of people who can have been served when who, a newcomer, came."""
    refuse_astray(line_of(served, row), elders)
    times = []
    for many in range(len(served) + 1):
        deeds, left = traced_back(friends, served, row, elders, {who: many})
        if not left:
            times.append(many)
    return times
