"""Small judges of orders, rings and chains: they look for nothing."""

from letinrow.bars import bar_words
from letinrow.coming import row_of
from letinrow.people import both_ways, is_name, is_row


def shows_order(friends, row, thing):
    """Whether a thing is an order of the row."""
    if not isinstance(thing, list) or not is_row(tuple(thing)):
        return False
    return row_of(friends, thing) == tuple(row)


def is_link(thing):
    """Whether a thing is a pair of a NAME and something."""
    return isinstance(thing, tuple) and len(thing) == 2 and is_name(thing[0])


def are_links(thing):
    """Whether a thing is a list of such pairs, one at least, of unlike NAMEs."""
    if not isinstance(thing, list) or not thing or not all([is_link(link) for link in thing]):
        return False
    return len(set([link[0] for link in thing])) == len(thing)


def each_bars_the_next(friends, row, links, last):
    """Whether each one bars the next one by its word, the last one of links that last one."""
    known = both_ways(friends)
    nexts = [link[0] for link in links[1:]] + [last]
    return all([link[1] in bar_words(known, row, link[0], other) for link, other in zip(links, nexts)])


def shows_ring(friends, row, thing):
    """Whether a thing is a ring of the row."""
    if not are_links(thing) or len(thing) < 2:
        return False
    return each_bars_the_next(friends, row, thing, thing[0][0])


def shows_chain(friends, row, one, other, thing):
    """Whether a thing is a chain from one to other in the row."""
    if not are_links(thing) or thing[0][0] != one:
        return False
    if other in [link[0] for link in thing]:
        return False
    return each_bars_the_next(friends, row, thing, other)
