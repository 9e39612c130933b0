"""Who can have come last, and who is left when all go that can."""

from letinrow.people import both_ways, last_friend_place


def loose_at(known, row, place):
    """Whether the one at that place can have come last; known is what both_ways told."""
    last = last_friend_place(known, row, row[place])
    if last is None:
        return place == len(row) - 1
    return last == place - 1


def is_loose(friends, row, who):
    """Whether who, in the row, can have come last."""
    return loose_at(both_ways(friends), row, row.index(who))


def loose_in(friends, row):
    """The list of all who can have come last, in the row's order."""
    known = both_ways(friends)
    return [who for place, who in enumerate(row) if loose_at(known, row, place)]


def hindmost_loose(known, row, but):
    """The place of the hindmost loose one that is none of but, None where there's none."""
    for place in range(len(row) - 1, -1, -1):
        if row[place] not in but and loose_at(known, row, place):
            return place
    return None


def gone_and_stayed(known, row, but):
    """The pair of the list of goers, none of but, and the tuple of those who are left then.

    known is what both_ways told.
    """
    left = list(row)
    gone = []
    place = hindmost_loose(known, left, but)
    while place is not None:
        gone.append(left.pop(place))
        place = hindmost_loose(known, left, but)
    return (gone, tuple(left))


def gone_and_left(friends, row, but):
    """The same, by the friends as they are handed in."""
    return gone_and_stayed(both_ways(friends), row, but)


def goers(friends, row, *, but=()):
    """The list of those who go when again and again the hindmost loose one goes."""
    gone, left = gone_and_left(friends, row, but)
    return gone


def left_over(friends, row, *, but=()):
    """The tuple, in the row's order, of those who are left when all go that can."""
    gone, left = gone_and_left(friends, row, but)
    return left
