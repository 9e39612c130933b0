"""How early and how late one can have come, and who came ahead of whom in every order."""

from letinrow.bars import bar_words, barred_in
from letinrow.orders import some_order
from letinrow.people import both_ways


def came_behind(friends, row):
    """A dict: of each one of the row a dict with all as keys who came behind it in every order.

    Those are the ones whom it bars, and whoever came behind one of these. Refused with Stuck.
    """
    order = some_order(friends, row)
    barred = barred_in(friends, row)
    behind = {}
    for who in reversed(order):
        found = {}
        for other in barred[who]:
            found[other] = True
            for later in behind[other]:
                found[later] = True
        behind[who] = found
    return behind


def needed_ahead(behind, who):
    """The list of those who came ahead of who in every order; behind is what came_behind told."""
    return [one for one in behind if who in behind[one]]


def earliest(friends, row, who):
    """The least place in an order at which who can have come."""
    return len(needed_ahead(came_behind(friends, row), who))


def latest(friends, row, who):
    """The greatest place in an order at which who can have come."""
    return len(row) - 1 - len(came_behind(friends, row)[who])


def early_order(friends, row, who):
    """An order in which who came as early as can be: just those are ahead who have to be."""
    ahead = needed_ahead(came_behind(friends, row), who)
    order = some_order(friends, row)
    first = [one for one in order if one in ahead]
    return first + [who] + [one for one in order if one not in ahead and one != who]


def late_order(friends, row, who):
    """An order in which who came as late as can be: just those are behind who have to be."""
    behind = came_behind(friends, row)[who]
    order = some_order(friends, row)
    first = [one for one in order if one not in behind and one != who]
    return first + [who] + [one for one in order if one in behind]


def came_ahead(friends, row):
    """The rising list of all pairs (one, other) such that one came ahead of other in every order."""
    behind = came_behind(friends, row)
    return sorted([(one, other) for one in behind for other in behind[one]])


def next_towards(barred, behind, who, other):
    """One whom who bars, and who is other or came ahead of it; other came behind who."""
    if other in barred[who]:
        return other
    return [later for later in barred[who] if other in behind[later]][0]


def chain_of(friends, row, one, other):
    """A chain from one to other, None where one needn't have come ahead of other."""
    behind = came_behind(friends, row)
    if one not in behind or other not in behind[one]:
        return None
    known = both_ways(friends)
    barred = barred_in(friends, row)
    chain = []
    who = one
    while who != other:
        later = next_towards(barred, behind, who, other)
        chain.append((who, bar_words(known, row, who, later)[0]))
        who = later
    return chain
