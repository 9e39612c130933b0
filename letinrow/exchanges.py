"""Orders led to one another by exchanges of neighbours."""

from letinrow.coming import row_of
from letinrow.errors import Apart
from letinrow.people import is_number


def exchanged(order, place):
    """The list with the ones at that place and the next one exchanged."""
    return list(order[:place]) + [order[place + 1], order[place]] + list(order[place + 2:])


def may_exchange(friends, order, place):
    """Whether the order has the same row when the ones at place and the next place are exchanged."""
    return row_of(friends, order) == row_of(friends, exchanged(order, place))


def places_in(order):
    """A dict of each one's place."""
    return {who: place for place, who in enumerate(order)}


def pairs_apart(one, other):
    """How many pairs of NAMEs stand the other way about in two lists of the same NAMEs."""
    places = places_in(other)
    turned = 0
    for place, who in enumerate(one):
        turned += len([later for later in one[place + 1:] if places[later] < places[who]])
    return turned


def exchanges(friends, one, other):
    """A list of places, as few as can be, at which the one order is exchanged till it is the other."""
    if row_of(friends, one) != row_of(friends, other):
        raise Apart()
    places = places_in(other)
    order = list(one)
    told = []
    at = 0
    # Only neighbours that stand the other way about in the other order are exchanged: neither of
    # them bars the other, so that the row stays the same.
    while at + 1 < len(order):
        if places[order[at]] < places[order[at + 1]]:
            at += 1
        else:
            order = exchanged(order, at)
            told.append(at)
            at = max(at - 1, 0)
    return told


def shows_exchanges(friends, one, other, thing):
    """Whether a thing is a list of places by which the one order, its row the same, comes to be the other."""
    if not isinstance(thing, list):
        return False
    row = row_of(friends, one)
    order = list(one)
    for place in thing:
        if not is_number(place) or not 0 <= place < len(order) - 1:
            return False
        order = exchanged(order, place)
        if row_of(friends, order) != row:
            return False
    return order == list(other)
