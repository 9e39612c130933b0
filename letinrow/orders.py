"""An order in which the people of a row can have come, or a ring that shows that there's none."""

from letinrow.bars import bar_words
from letinrow.errors import Stuck
from letinrow.loose import gone_and_left
from letinrow.people import both_ways


def next_barred(known, row, who, left):
    """The pair (other, word) of one of those left whom who bars.

    There's always one. Whoever has a friend behind it can't go, so the friends ahead of one
    that is left are all left, too; what keeps it from going then bars it in the whole row.
    """
    barred = [(other, word) for other in left for word in bar_words(known, row, who, other)]
    return barred[0]


def ring_among(friends, row, left):
    """A ring of some of those left: from one to another whom it bars, till one comes again."""
    known = both_ways(friends)
    path = []
    places = {}
    who = left[0]
    while who not in places:
        places[who] = len(path)
        other, word = next_barred(known, row, who, left)
        path.append((who, word))
        who = other
    return path[places[who]:]


def some_order(friends, row):
    """An order of the row; Stuck where it has none."""
    gone, left = gone_and_left(friends, row, ())
    if left:
        raise Stuck(left)
    return gone[::-1]


def order_of(friends, row):
    """("order", an order of the row), or ("ring", a ring of it) where it has none."""
    gone, left = gone_and_left(friends, row, ())
    if left:
        return ("ring", ring_among(friends, row, left))
    return ("order", gone[::-1])
