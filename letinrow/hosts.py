"""Behind whom each came, and how many can have been let in ahead of it."""

from letinrow.early import came_behind, needed_ahead
from letinrow.orders import some_order
from letinrow.people import both_ways, last_friend_place


def hung(friends, row):
    """The list, in the row's order, of pairs (NAME, host): the last friend ahead of it, or None."""
    # Asked for its refusal alone: the hosts are the same in every order.
    some_order(friends, row)
    known = both_ways(friends)
    told = []
    for place, who in enumerate(row):
        host = last_friend_place(known, row[:place], who)
        told.append((who, None if host is None else row[host]))
    return told


def put_back_bounds(friends, row):
    """The list, in the row's order, of triples (NAME, least, most) of how many came later and stand ahead.

    Who came as late as can be has only those come later who had to, who came as early as can be all but
    those who came ahead of it in every order.
    """
    behind = came_behind(friends, row)
    told = []
    for place, who in enumerate(row):
        ahead = needed_ahead(behind, who)
        least = [other for other in row[:place] if other in behind[who]]
        most = [other for other in row[:place] if other not in ahead]
        told.append((who, len(least), len(most)))
    return told
