"""[11] how early, how late, who came ahead of whom, with [1] (d), [2], [3] and [9] of them."""

import itertools
import unittest

from asking import NAMES, Asking, all_friends, by_chance, plain_orders, plain_row, rows_with_orders
from letinrow.bars import bars
from letinrow.early import came_ahead, chain_of, earliest, early_order, late_order, latest
from letinrow.errors import Stuck
from letinrow.loose import left_over
from letinrow.ordercheck import shows_chain
from test_allorders import STUCK, twelve_with_most_orders
from test_ordercheck import plain_chain

FRIENDS = (("ann", "di"), ("ann", "eve"), ("bob", "cy"))
ROW = ("ann", "eve", "di", "bob", "cy")


def plain_ahead(row, orders):
    """The rising list of pairs the first of which is ahead in all these orders."""
    return sorted(
        pair for pair in itertools.permutations(row, 2)
        if all(order.index(pair[0]) < order.index(pair[1]) for order in orders)
    )


def plain_closure(friends, row):
    """The same by the words of [8] alone: by whom is barred, and by those who bar them."""
    pairs = {pair for pair in itertools.permutations(row, 2) if bars(friends, row, *pair)}
    for middle, one, other in itertools.product(row, repeat=3):
        if (one, middle) in pairs and (middle, other) in pairs:
            pairs.add((one, other))
    return sorted(pairs)


class Early(Asking):
    def assert_right(self, friends, row, orders):
        """All that is told of a row, against all its orders."""
        ahead = plain_ahead(row, orders)
        self.assertEqual(came_ahead(friends, row), ahead)
        for who in row:
            places = [order.index(who) for order in orders]
            self.assertEqual(earliest(friends, row, who), min(places))
            self.assertEqual(latest(friends, row, who), max(places))
            first, last = early_order(friends, row, who), late_order(friends, row, who)
            self.assertIn(first, orders)
            self.assertIn(last, orders)
            self.assertEqual(first.index(who), min(places))
            self.assertEqual(last.index(who), max(places))
        for one, other in itertools.product(row, repeat=2):
            chain = chain_of(friends, row, one, other)
            if (one, other) in ahead:
                self.assertTrue(plain_chain(friends, row, one, other, chain), chain)
            else:
                self.assertIsNone(chain)

    def assert_asked(self, friends, row, orders):
        """The same in each way of asking."""
        self.assert_right(friends, row, orders)
        ahead = plain_ahead(row, orders)
        self.assert_told(ahead, came_ahead, friends, row)
        for who in row:
            self.assert_told(min(order.index(who) for order in orders), earliest, friends, row, who)
            self.assert_told(max(order.index(who) for order in orders), latest, friends, row, who)
            self.assert_told(early_order(friends, row, who), early_order, friends, row, who)
            self.assert_told(late_order(friends, row, who), late_order, friends, row, who)
        for one, other in itertools.product(row, repeat=2):
            self.assert_told(chain_of(friends, row, one, other), chain_of, friends, row, one, other)

    def test_a_bare_row(self):
        self.assert_told([], came_ahead, (), ())
        self.assert_told([], came_ahead, FRIENDS, ())

    def test_one_alone(self):
        for friends in ((), FRIENDS):
            self.assert_told(0, earliest, friends, ("ann",), "ann")
            self.assert_told(0, latest, friends, ("ann",), "ann")
            self.assert_told(["ann"], early_order, friends, ("ann",), "ann")
            self.assert_told(["ann"], late_order, friends, ("ann",), "ann")
            self.assert_told([], came_ahead, friends, ("ann",))
            self.assert_told(None, chain_of, friends, ("ann",), "ann", "ann")

    def test_nobody_friends(self):
        row = ("cy", "ann", "di", "bob")
        self.assert_asked((), row, [list(row)])
        self.assert_told(
            [("ann", "bob"), ("ann", "di"), ("cy", "ann"), ("cy", "bob"), ("cy", "di"), ("di", "bob")],
            came_ahead, (), row,
        )

    def test_all_friends(self):
        row = ("cy", "ann", "di", "bob")
        self.assert_asked(tuple(itertools.combinations(sorted(row), 2)), row, [list(row)])

    def test_one_the_friend_of_all(self):
        friends = (("ann", "bob"), ("ann", "cy"), ("ann", "di"))
        self.assert_asked(friends, ("ann", "cy", "bob", "di"), [["ann", "di", "bob", "cy"]])

    def test_several_orders(self):
        orders = plain_orders(FRIENDS, ROW)
        self.assertEqual(len(orders), 6)
        self.assert_asked(FRIENDS, ROW, orders)
        for who, first, last in (("ann", 0, 0), ("di", 1, 3), ("eve", 2, 4), ("bob", 1, 3), ("cy", 2, 4)):
            self.assert_told(first, earliest, FRIENDS, ROW, who)
            self.assert_told(last, latest, FRIENDS, ROW, who)
        self.assert_told(
            [("ann", "bob"), ("ann", "cy"), ("ann", "di"), ("ann", "eve"), ("bob", "cy"), ("di", "eve")],
            came_ahead, FRIENDS, ROW,
        )

    def test_a_chain_of_several_pairs(self):
        friends = (("ann", "bob"), ("ann", "cy"), ("bob", "di"))
        row = ("ann", "cy", "bob", "di")
        self.assertEqual(plain_orders(friends, row)[0][:2], ["ann", "bob"])
        self.assert_asked(friends, row, plain_orders(friends, row))
        longest = 0
        for seed in range(30):
            friends, people = by_chance(seed, 10, 0.2)
            row = plain_row(friends, people)
            for one, other in came_ahead(friends, row):
                chain = chain_of(friends, row, one, other)
                self.assertTrue(plain_chain(friends, row, one, other, chain))
                if not bars(friends, row, one, other):
                    longest = max(longest, len(chain))
        self.assertGreater(longest, 1)

    def test_no_chain_to_oneself_or_of_one_not_in_the_row(self):
        for one, other in [(who, who) for who in ROW] + [("zed", "ann"), ("ann", "zed"), ("zed", "zed")]:
            self.assert_told(None, chain_of, FRIENDS, ROW, one, other)

    def test_rows_of_few_people_against_all_their_orders(self):
        for friends, row, orders in rows_with_orders():
            self.assert_right(friends, row, orders)

    def assert_many(self, friends, row):
        """A row of many people, against the words of [8]."""
        ahead = plain_closure(friends, row)
        self.assertEqual(came_ahead(friends, row), ahead)
        for who in row:
            first, last = early_order(friends, row, who), late_order(friends, row, who)
            self.assertEqual(plain_row(friends, first), tuple(row))
            self.assertEqual(plain_row(friends, last), tuple(row))
            self.assertEqual(len([pair for pair in ahead if pair[1] == who]), earliest(friends, row, who))
            self.assertEqual(len([pair for pair in ahead if pair[0] == who]), len(row) - 1 - latest(friends, row, who))
            self.assertEqual(first.index(who), earliest(friends, row, who))
            self.assertEqual(last.index(who), latest(friends, row, who))

    def test_twelve_people_with_most_orders(self):
        self.assert_many(*twelve_with_most_orders())

    def test_as_many_as_may_be(self):
        for seed, chance in enumerate((0, 0.05, 0.1, 0.2, 1)):
            friends, people = by_chance(seed, 24, chance, strangers=3)
            row = plain_row(friends, people)
            self.assert_many(friends, row)
            ahead = set(came_ahead(friends, row))
            for one, other in itertools.product(row[::4], row):
                chain = chain_of(friends, row, one, other)
                if (one, other) in ahead:
                    self.assertTrue(shows_chain(friends, row, one, other, chain))
                else:
                    self.assertIsNone(chain)

    def test_as_many_as_may_be_in_each_way_of_asking(self):
        friends, people = by_chance(9, 24, 0.1, strangers=3)
        row = plain_row(friends, people)
        who = people[9]
        self.assert_told(plain_closure(friends, row), came_ahead, friends, row)
        for function in (earliest, latest, early_order, late_order):
            self.assert_told(function(friends, row, who), function, friends, row, who)
        self.assert_told(chain_of(friends, row, row[0], who), chain_of, friends, row, row[0], who)

    def test_stuck(self):
        for friends, row, left in STUCK:
            self.assert_refused(Stuck, {"left": left}, came_ahead, friends, row)
            for who in row:
                for function in (earliest, latest, early_order, late_order):
                    self.assert_refused(Stuck, {"left": left}, function, friends, row, who)
                self.assert_refused(Stuck, {"left": left}, chain_of, friends, row, row[0], who)

    def test_stuck_just_where_there_is_no_order(self):
        for friends in all_friends(NAMES[:4]):
            for row in itertools.permutations(NAMES[:4], 4):
                left = left_over(friends, row)
                if left:
                    with self.assertRaises(Stuck) as caught:
                        came_ahead(friends, row)
                    self.assertEqual(caught.exception.left, left)
                else:
                    came_ahead(friends, row)

    def test_arguments(self):
        for function in (earliest, latest, early_order, late_order):
            self.assert_arguments(function, "(friends, row, who)")
        self.assert_arguments(came_ahead, "(friends, row)")
        self.assert_arguments(chain_of, "(friends, row, one, other)")


if __name__ == "__main__":
    unittest.main()
