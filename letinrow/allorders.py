"""All orders of a row, counted and numbered, rising as lists of NAMEs do.

A bunch is some of the row's people, as a number: each of them has a bit of its own in it.
"""

from letinrow.bars import barred_in
from letinrow.errors import NoOrder
from letinrow.orders import some_order


def bits_of(row):
    """A dict, NAMEs rising, of each one's bit."""
    return {who: 1 << place for place, who in enumerate(sorted(row))}


def barrers_of(friends, row, bits):
    """A dict of the bunch of those who bar each one: all of them came ahead of it."""
    barred = barred_in(friends, row)
    return {who: sum([bits[one] for one in row if who in barred[one]]) for who in row}


def next_ones(bits, barrers, bunch):
    """The rising list of those who can come when just that bunch has come."""
    return [who for who in bits if not bits[who] & bunch and (barrers[who] & bunch) == barrers[who]]


def bunches_by_size(bits, barrers):
    """A list, for each number of people from 0 on, of the list of bunches that can have come first."""
    sizes = [[0]]
    while len(sizes) <= len(bits):
        grown = {bunch + bits[who]: True for bunch in sizes[-1] for who in next_ones(bits, barrers, bunch)}
        sizes.append(list(grown))
    return sizes


class Count:
    """In how many ways the others of a row can come behind each bunch that can have come first."""

    def __init__(self, friends, row):
        # First of all, since a row without an order is refused ahead of all else.
        some_order(friends, row)
        self.bits = bits_of(row)
        self.barrers = barrers_of(friends, row, self.bits)
        self.ways = {sum([self.bits[who] for who in row]): 1}
        sizes = bunches_by_size(self.bits, self.barrers)
        for bunches in reversed(sizes[:-1]):
            for bunch in bunches:
                self.ways[bunch] = sum([many for who, many in self.ways_by_next(bunch)])

    def ways_by_next(self, bunch):
        """The list of pairs (who, many), NAMEs rising: who can come next, in how many ways all do then."""
        return [(who, self.ways[bunch + self.bits[who]]) for who in next_ones(self.bits, self.barrers, bunch)]

    def next_of_number(self, bunch, number):
        """The pair of who comes next in the order of that number, and its number among those so begun."""
        below = 0
        for who, many in self.ways_by_next(bunch):
            if number < below + many:
                break
            below += many
        return (who, number - below)


def how_many(friends, row):
    """How many orders the row has."""
    return Count(friends, row).ways[0]


def nth_order(friends, row, number):
    """The order of that number."""
    count = Count(friends, row)
    if not 0 <= number < count.ways[0]:
        raise NoOrder(number)
    order = []
    bunch = 0
    rest = number
    while len(order) < len(row):
        who, rest = count.next_of_number(bunch, rest)
        order.append(who)
        bunch += count.bits[who]
    return order


def number_of(friends, row, order):
    """The number of one of the row's orders."""
    count = Count(friends, row)
    bunch = 0
    number = 0
    for who in order:
        number += sum([many for other, many in count.ways_by_next(bunch) if other < who])
        bunch += count.bits[who]
    return number
