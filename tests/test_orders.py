"""[8] an order or a ring, and [1] (a) of rows alone, with [2] and [3] of them."""

import itertools
import unittest

from asking import NAMES, Asking, all_friends, by_chance, plain_row
from letinrow.loose import goers, left_over
from letinrow.orders import order_of
from test_bars import plain_bars


class Orders(Asking):
    def assert_ring(self, friends, row, ring):
        self.assertIsInstance(ring, list)
        self.assertGreaterEqual(len(ring), 2)
        whos = [who for who, _ in ring]
        self.assertEqual(len(set(whos)), len(whos))
        for pair, later in zip(ring, whos[1:] + whos[:1]):
            self.assertIs(type(pair), tuple)
            self.assertEqual(len(pair), 2)
            self.assertIn(pair[1], plain_bars(friends, row, pair[0], later))

    def assert_right(self, friends, row, has_order):
        told = order_of(friends, row)
        self.assertIs(type(told), tuple)
        word, thing = told
        if has_order:
            self.assertEqual(word, "order")
            self.assertIs(type(thing), list)
            self.assertEqual(thing, goers(friends, row)[::-1])
            self.assertEqual(plain_row(friends, thing), tuple(row))
        else:
            self.assertEqual(word, "ring")
            self.assert_ring(friends, row, thing)

    def assert_told_ring(self, friends, row):
        told = order_of(friends, row)
        self.assertEqual(told[0], "ring")
        self.assert_ring(friends, row, told[1])
        wanted = ("ring", list(told[1]))
        self.assert_told(wanted, order_of, friends, row)

    def test_a_bare_row(self):
        self.assert_told(("order", []), order_of, (), ())
        self.assert_told(("order", []), order_of, (("ann", "bob"),), ())

    def test_one(self):
        self.assert_told(("order", ["ann"]), order_of, (("ann", "bob"),), ("ann",))

    def test_nobody_friends(self):
        self.assert_told(("order", ["cy", "ann", "bob"]), order_of, (), ("cy", "ann", "bob"))

    def test_some_friends(self):
        friends = (("ann", "di"), ("ann", "eve"), ("bob", "cy"))
        row = ("ann", "eve", "di", "bob", "cy")
        self.assert_told(("order", ["ann", "di", "eve", "bob", "cy"]), order_of, friends, row)

    def test_all_friends(self):
        row = ("cy", "ann", "bob")
        friends = (("ann", "bob"), ("ann", "cy"), ("bob", "cy"))
        self.assert_told(("order", ["cy", "ann", "bob"]), order_of, friends, row)

    def test_rings(self):
        for friends, row in (
            ((("ann", "cy"),), ("ann", "bob", "cy")),
            ((("ann", "cy"), ("bob", "di")), ("ann", "bob", "cy", "di")),
            ((("ann", "cy"), ("bob", "di")), ("ann", "bob", "cy", "di", "eve")),
            ((("ann", "cy"), ("bob", "di"), ("di", "eve")), ("flo", "ann", "bob", "cy", "di", "eve")),
        ):
            self.assert_told_ring(friends, row)

    def test_all_rows_of_few_people_against_all_orders(self):
        for many in range(5):
            names = NAMES[:many]
            for friends in all_friends(names):
                orders = list(itertools.permutations(names))
                rows = {plain_row(friends, order) for order in orders}
                for row in orders:
                    self.assert_right(friends, row, row in rows)

    def test_a_row_of_five_people_against_all_orders(self):
        # One row is enough of all friendships: the names are no matter.
        row = NAMES[:5]
        for friends in all_friends(row):
            has_order = any(plain_row(friends, order) == row for order in itertools.permutations(row))
            self.assert_right(friends, row, has_order)

    def test_as_many_as_may_be(self):
        words = set()
        for seed, chance in itertools.product(range(6), (0, 0.03, 0.06, 0.1, 0.2, 0.5, 1)):
            friends, people = by_chance(seed, 24, chance, strangers=3)
            came = plain_row(friends, people)
            self.assertEqual(order_of(friends, came)[0], "order")
            for row in (tuple(people), came, came[:10] + came[12:] + came[10:12]):
                self.assert_right(friends, row, not left_over(friends, row))
                words.add(order_of(friends, row)[0])
        self.assertEqual(words, {"order", "ring"})

    def test_as_many_as_may_be_asked_in_each_way(self):
        friends, people = by_chance(3, 24, 0.1, strangers=3)
        came = plain_row(friends, people)
        self.assert_told(("order", goers(friends, came)[::-1]), order_of, friends, came)
        self.assert_told_ring(friends, tuple(people))

    def test_arguments(self):
        self.assert_arguments(order_of, "(friends, row)")


if __name__ == "__main__":
    unittest.main()
