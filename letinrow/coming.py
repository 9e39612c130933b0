"""Coming to a row: who comes is let in behind the last of its friends there."""

from letinrow.errors import Here
from letinrow.people import both_ways, last_friend_place


def host_place(known, row, who):
    """The place of the one who lets who in, None where there's none; known is what both_ways told."""
    if who in row:
        raise Here(who)
    return last_friend_place(known, row, who)


def host_of(friends, row, who):
    """The last one in the row who is a friend of who, None where there's none."""
    place = host_place(both_ways(friends), row, who)
    return None if place is None else row[place]


def coming_place(known, row, who):
    """The place at which who comes to stand; known is what both_ways told."""
    place = host_place(known, row, who)
    return len(row) if place is None else place + 1


def stood_in(known, row, who):
    """The ROW behind who's coming; known is what both_ways told."""
    at = coming_place(known, row, who)
    return tuple(row[:at]) + (who,) + tuple(row[at:])


def let_in(friends, row, who):
    """The ROW behind who's coming."""
    return stood_in(both_ways(friends), row, who)


def row_of(friends, order):
    """The ROW when these have come, one behind the other, to a bare row."""
    known = both_ways(friends)
    row = ()
    for who in order:
        row = stood_in(known, row, who)
    return row


def put_back(friends, order):
    """The list of pairs (NAME, how many that came later stand ahead of it), in the row's order."""
    row = row_of(friends, order)
    came = {who: at for at, who in enumerate(order)}
    told = []
    for place, who in enumerate(row):
        later = [other for other in row[:place] if came[other] > came[who]]
        told.append((who, len(later)))
    return told
