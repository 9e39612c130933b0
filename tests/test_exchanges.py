"""[10] exchanges of neighbours, and [1] (c) of them, with [2] and [3] of them."""

import itertools
import random
import unittest

from asking import NAMES, OTHER_THINGS, Asking, all_friends, by_chance, plain_orders, plain_row, tampered
from letinrow.allorders import how_many, nth_order
from letinrow.errors import Apart
from letinrow.exchanges import exchanges, may_exchange, pairs_apart, shows_exchanges
from test_allorders import twelve_with_most_orders

FRIENDS = (("ann", "di"), ("ann", "eve"), ("bob", "cy"))
ROW = ("ann", "eve", "di", "bob", "cy")
FIRST = ["ann", "bob", "cy", "di", "eve"]
LAST = ["ann", "di", "eve", "bob", "cy"]


def swapped(order, place):
    order = list(order)
    order[place], order[place + 1] = order[place + 1], order[place]
    return order


def plain_apart(one, other):
    return len([
        pair for pair in itertools.combinations(sorted(one), 2)
        if (one.index(pair[0]) < one.index(pair[1])) != (other.index(pair[0]) < other.index(pair[1]))
    ])


def plain_way(friends, one, other, thing):
    """Whether a thing is a list of places that lead the one to the other over orders of the same row."""
    if type(thing) is not list:
        return False
    row, order = plain_row(friends, one), list(one)
    for place in thing:
        if type(place) is not int or place not in range(len(order) - 1):
            return False
        order = swapped(order, place)
        if plain_row(friends, order) != row:
            return False
    return order == list(other)


class MayExchange(Asking):
    def test_each_place(self):
        # ann bars all, cy came to stand behind bob, di bars eve.
        for place, wanted in enumerate((False, False, True, False)):
            self.assert_told(wanted, may_exchange, FRIENDS, FIRST, place)
        for place, wanted in enumerate((False, False, True, False)):
            self.assert_told(wanted, may_exchange, FRIENDS, LAST, place)

    def test_nobody_friends_and_all_friends(self):
        order = ["cy", "ann", "bob", "di"]
        for friends in ((), tuple(itertools.combinations(sorted(order), 2))):
            for place in range(3):
                self.assert_told(False, may_exchange, friends, order, place)

    def test_each_order_of_few_people(self):
        for friends in all_friends(NAMES[:4]):
            for order in itertools.permutations(NAMES[:4]):
                for place in range(3):
                    wanted = plain_row(friends, order) == plain_row(friends, swapped(order, place))
                    self.assertIs(may_exchange(friends, order, place), wanted)

    def test_twelve_people(self):
        seen = set()
        for seed, chance in itertools.product(range(2), (0.1, 0.2, 0.4)):
            friends, order = by_chance(seed, 12, chance, strangers=3)
            for place in range(11):
                wanted = plain_row(friends, order) == plain_row(friends, swapped(order, place))
                self.assert_told(wanted, may_exchange, friends, order, place)
                seen.add(wanted)
        self.assertEqual(seen, {True, False})

    def test_arguments(self):
        self.assert_arguments(may_exchange, "(friends, order, place)")


class PairsApart(Asking):
    def test_an_order_and_itself(self):
        for order in ([], ["ann"], ["bob", "ann"], FIRST):
            self.assert_told(0, pairs_apart, order, list(order))

    def test_turned_about(self):
        for many in range(6):
            order = FIRST[:many]
            self.assert_told(many * (many - 1) // 2, pairs_apart, order, order[::-1])

    def test_either_way(self):
        self.assert_told(4, pairs_apart, FIRST, LAST)
        self.assert_told(4, pairs_apart, LAST, FIRST)
        self.assert_told(1, pairs_apart, FIRST, swapped(FIRST, 2))
        self.assert_told(2, pairs_apart, ["ann", "bob", "cy"], ["bob", "cy", "ann"])

    def test_all_lists_of_few_people(self):
        for one, other in itertools.product(itertools.permutations(NAMES[:4]), repeat=2):
            self.assertEqual(pairs_apart(one, other), plain_apart(one, other))

    def test_twelve_people(self):
        for seed in range(5):
            _, one = by_chance(seed, 12, 0)
            other = random.Random(seed + 100).sample(one, 12)
            self.assert_told(plain_apart(one, other), pairs_apart, one, other)
            self.assert_told(plain_apart(one, other), pairs_apart, other, one)

    def test_arguments(self):
        self.assert_arguments(pairs_apart, "(one, other)")


class Exchanges(Asking):
    def assert_led(self, friends, one, other):
        told = exchanges(friends, one, other)
        self.assertIs(type(told), list)
        self.assertEqual(len(told), plain_apart(one, other))
        self.assertTrue(plain_way(friends, one, other, told), (friends, one, other, told))
        self.assertTrue(shows_exchanges(friends, one, other, told))
        return told

    def test_an_order_and_itself(self):
        for order in ([], ["ann"], ["bob", "ann"], FIRST):
            self.assert_told([], exchanges, FRIENDS, order, list(order))

    def test_neighbours(self):
        self.assert_told([2], exchanges, FRIENDS, FIRST, swapped(FIRST, 2))
        self.assert_told([2], exchanges, FRIENDS, swapped(FIRST, 2), FIRST)

    def test_in_each_way_of_asking(self):
        for one, other in ((FIRST, LAST), (LAST, FIRST)):
            self.assertEqual(plain_row(FRIENDS, one), ROW)
            self.assertEqual(plain_row(FRIENDS, other), ROW)
            told = self.assert_led(FRIENDS, one, other)
            self.assert_told(list(told), exchanges, FRIENDS, one, other)

    def test_all_orders_of_few_people(self):
        for friends in all_friends(NAMES[:4]):
            for one, other in itertools.product(itertools.permutations(NAMES[:4]), repeat=2):
                if plain_row(friends, one) == plain_row(friends, other):
                    self.assert_led(friends, list(one), list(other))
                else:
                    with self.assertRaises(Apart):
                        exchanges(friends, one, other)

    def test_all_orders_of_some_rows_of_six(self):
        for friends in (
            (("ann", "bob"), ("cy", "di"), ("eve", "flo")),
            (("ann", "bob"), ("bob", "cy"), ("ann", "eve"), ("di", "flo")),
        ):
            orders = plain_orders(friends, plain_row(friends, NAMES))
            self.assertGreater(len(orders), 5)
            for one, other in itertools.product(orders, repeat=2):
                self.assert_led(friends, one, other)

    def test_apart(self):
        for one, other in (
            (FIRST, swapped(FIRST, 0)), (FIRST, swapped(FIRST, 1)), (FIRST, FIRST[::-1]),
            (FIRST, swapped(FIRST, 3)), (swapped(FIRST, 0), FIRST),
        ):
            self.assertNotEqual(plain_row(FRIENDS, one), plain_row(FRIENDS, other))
            self.assert_refused(Apart, {}, exchanges, FRIENDS, one, other)
        self.assert_refused(Apart, {}, exchanges, (), ["ann", "bob"], ["bob", "ann"])
        self.assertTrue(issubclass(Apart, ValueError))

    def test_twelve_people(self):
        friends, row = twelve_with_most_orders()
        many = how_many(friends, row)
        for number in range(0, many, 7000):
            one, other = nth_order(friends, row, number), nth_order(friends, row, many - 1 - number)
            self.assert_led(friends, one, other)
        for seed, chance in itertools.product(range(3), (0, 0.1, 0.2, 0.4)):
            friends, people = by_chance(seed, 12, chance, strangers=3)
            row = plain_row(friends, people)
            self.assert_led(friends, people, nth_order(friends, row, 0))
            self.assert_led(friends, people, nth_order(friends, row, how_many(friends, row) - 1))

    def test_arguments(self):
        self.assert_arguments(exchanges, "(friends, one, other)")


class ShowsExchanges(Asking):
    def assert_shown(self, wanted, thing, one=FIRST, other=LAST, friends=FRIENDS):
        self.assertIs(plain_way(friends, one, other, thing), wanted, thing)
        self.assert_judged(wanted, shows_exchanges, friends, one, other, thing)

    def test_the_told_places(self):
        self.assert_shown(True, exchanges(FRIENDS, FIRST, LAST))
        self.assert_shown(True, exchanges(FRIENDS, LAST, FIRST), LAST, FIRST)
        self.assert_shown(False, exchanges(FRIENDS, FIRST, LAST), FIRST, FIRST)

    def test_an_order_and_itself(self):
        for order in ([], ["ann"], ["bob", "ann"], FIRST):
            self.assert_shown(True, [], order, order)
            self.assert_shown(False, (), order, order)
            self.assert_shown(False, [0], order, order)
        self.assert_shown(True, [2, 2], FIRST, FIRST)
        self.assert_shown(False, [2], FIRST, FIRST)

    def test_longer_ways(self):
        way = [2, 1, 3, 2]
        self.assert_shown(True, way)
        self.assert_shown(True, [2, 2] + way)
        self.assert_shown(True, way + [2, 2])
        self.assert_shown(True, way[:2] + [1, 1] + way[2:])
        self.assert_shown(True, way + way[::-1] + way)
        self.assert_shown(True, [2, 2] * 50 + way)

    def test_a_place_left_out_or_twice(self):
        way = [2, 1, 3, 2]
        for at in range(4):
            self.assert_shown(False, way[:at] + way[at + 1:])
            self.assert_shown(False, way[:at] + [way[at]] + way[at:])
        self.assert_shown(False, [])
        self.assert_shown(False, way[::-1][1:])

    def test_over_orders_of_another_row(self):
        # There and back again by exchanges that aren't allowed.
        for place in (0, 1, 3):
            self.assert_shown(False, [place, place], FIRST, FIRST)
            self.assert_shown(False, [place, place, 2, 1, 3, 2])
        self.assert_shown(False, [1], ["ann", "bob", "cy"], ["ann", "cy", "bob"], ())

    def test_places_that_are_none(self):
        way = [2, 1, 3, 2]
        for place in (-1, -2, -3, -4, -5, 4, 5, 10 ** 30, -10 ** 30):
            for at in range(5):
                self.assert_shown(False, way[:at] + [place] + way[at:])
                self.assert_shown(False, way[:at] + [place] + way[at + 1:])
            self.assert_shown(False, [place, place], FIRST, FIRST)

    def test_true_and_false_are_no_places(self):
        friends = (("ann", "bob"), ("cy", "di"))
        one, other = ["ann", "bob", "cy", "di"], ["ann", "cy", "bob", "di"]
        self.assert_shown(True, [1], one, other, friends)
        self.assert_shown(False, [True], one, other, friends)
        self.assert_shown(False, [2, True, 3, 2])
        self.assert_shown(True, [2, 1, 3, 2])
        friends, one, other = (("ann", "bob"),), ["ann", "bob"], ["bob", "ann"]
        for thing in ([0], [False]):
            self.assert_shown(False, thing, one, other, friends)

    def test_things_of_other_kinds(self):
        self.assert_shown(False, (2, 1, 3, 2))
        self.assert_shown(False, [(2, 1, 3, 2)])
        self.assert_shown(False, [[2, 1, 3, 2]])
        self.assert_shown(False, [2, 1, 3, "2"])
        self.assert_shown(False, [2, 1, None, 3, 2])
        for thing in OTHER_THINGS:
            self.assert_shown(False, thing)
            self.assert_shown(False, thing, FIRST, FIRST)
            self.assert_shown(False, [thing], [], [])
            self.assert_shown(False, [2, 1, 3, 2, thing])

    def test_orders_whose_rows_are_not_the_same(self):
        for other in (swapped(FIRST, 0), swapped(FIRST, 1), FIRST[::-1]):
            for many in range(4):
                for places in itertools.product(range(4), repeat=many):
                    self.assertIs(shows_exchanges(FRIENDS, FIRST, other, list(places)), False)
        self.assert_shown(False, [0], FIRST, swapped(FIRST, 0))
        self.assert_shown(False, [1], FIRST, swapped(FIRST, 1))

    def test_all_short_ways_between_orders_of_few_people(self):
        ways = [list(way) for many in range(4) for way in itertools.product(range(3), repeat=many)]
        for friends in itertools.islice(all_friends(NAMES[:4]), 0, None, 4):
            orders = plain_orders(friends, plain_row(friends, NAMES[:4])) + [list(NAMES[3::-1])]
            for one, other in itertools.product(orders[:3] + orders[-1:], repeat=2):
                for way in ways:
                    self.assertIs(shows_exchanges(friends, one, other, way), plain_way(friends, one, other, way))

    def test_tampered_ones(self):
        dice = random.Random(6)
        for _ in range(300):
            thing = tampered(dice, [2, 1, 3, 2, 2, 2])
            wanted = plain_way(FRIENDS, FIRST, LAST, thing)
            self.assertIs(shows_exchanges(FRIENDS, FIRST, LAST, thing), wanted, thing)

    def test_twelve_people(self):
        friends, row = twelve_with_most_orders()
        one, other = nth_order(friends, row, 0), nth_order(friends, row, how_many(friends, row) - 1)
        told = exchanges(friends, one, other)
        self.assert_shown(True, told, one, other, friends)
        self.assert_shown(True, told + told[::-1], one, one, friends)
        self.assert_shown(True, (told + told[::-1]) * 9 + told, one, other, friends)
        self.assert_shown(False, told[:-1], one, other, friends)

    def test_arguments(self):
        self.assert_arguments(shows_exchanges, "(friends, one, other, thing)")


if __name__ == "__main__":
    unittest.main()
