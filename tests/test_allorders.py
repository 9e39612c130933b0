"""[9] orders counted and numbered, and [1] (c) of them, with [2] and [3] of them."""

import itertools
import math
import unittest

from asking import NAMES, Asking, all_friends, by_chance, plain_orders, plain_row
from letinrow.allorders import how_many, nth_order, number_of
from letinrow.errors import NoOrder, Stuck
from letinrow.loose import left_over
from letinrow.ordercheck import shows_order

FRIENDS = (("ann", "di"), ("ann", "eve"), ("bob", "cy"))
ROW = ("ann", "eve", "di", "bob", "cy")
STUCK = (
    ((("ann", "cy"),), ("ann", "bob", "cy"), ("ann", "bob", "cy")),
    ((("ann", "cy"), ("bob", "di")), ("ann", "bob", "cy", "di"), ("ann", "bob", "cy", "di")),
    ((("ann", "cy"), ("bob", "di")), ("ann", "bob", "cy", "di", "eve"), ("ann", "bob", "cy", "di")),
    ((("ann", "cy"), ("bob", "di"), ("di", "eve")), ("flo", "bob", "ann", "di", "cy", "eve"),
     ("flo", "bob", "ann", "di", "cy", "eve")),
)


def twelve_with_most_orders():
    """FRIENDS and a row of 12: no other row of 12 has more orders.

    Each came ahead of the first whom it let in, and of the next one who was let in where it was, at the
    end where nobody lets in. So the orders are those of a tree with two branches at each at most, 12! by the
    sizes of all its branches: as many as can be where these are alike, 79200.
    """
    names = dict(zip("abcdefghijkl", "hcalkfdbigej"))
    pairs = [sorted([names[one], names[other]]) for one, other in ("ab", "ad", "ae", "bc", "fg", "fi", "gh", "jk")]
    return tuple(sorted(map(tuple, pairs))), tuple(names[letter] for letter in "aedbcfighjkl")


class AllOrders(Asking):
    def assert_orders(self, friends, row, orders):
        """That just these, rising, are the orders, in each way of asking."""
        self.assertEqual(orders, sorted(orders))
        self.assert_told(len(orders), how_many, friends, row)
        for number, order in enumerate(orders):
            self.assert_told(order, nth_order, friends, row, number)
            self.assert_told(number, number_of, friends, row, order)
        for number in (len(orders), len(orders) + 1, 10 ** 30, -1, -len(orders), -10 ** 30):
            self.assert_refused(NoOrder, {"number": number}, nth_order, friends, row, number)

    def test_a_bare_row(self):
        self.assert_orders((), (), [[]])
        self.assert_orders(FRIENDS, (), [[]])

    def test_one(self):
        self.assert_orders((), ("ann",), [["ann"]])
        self.assert_orders(FRIENDS, ("ann",), [["ann"]])

    def test_nobody_friends(self):
        self.assert_orders((), ("cy", "ann", "bob"), [["cy", "ann", "bob"]])
        self.assert_orders((("ann", "zed"),), ("cy", "ann", "bob"), [["cy", "ann", "bob"]])

    def test_all_friends(self):
        row = ("cy", "ann", "di", "bob")
        self.assert_orders(tuple(itertools.combinations(sorted(row), 2)), row, [list(row)])

    def test_one_the_friend_of_all(self):
        friends = (("ann", "bob"), ("ann", "cy"), ("ann", "di"))
        self.assert_orders(friends, ("ann", "cy", "bob", "di"), [["ann", "di", "bob", "cy"]])

    def test_several_orders_rising(self):
        self.assert_orders((("ann", "cy"), ("bob", "di")), ("bob", "di", "ann", "cy"), [
            ["bob", "ann", "cy", "di"], ["bob", "ann", "di", "cy"], ["bob", "di", "ann", "cy"],
        ])
        orders = plain_orders(FRIENDS, ROW)
        self.assertGreater(len(orders), 3)
        self.assert_orders(FRIENDS, ROW, orders)

    def test_rising_as_names_do_not_as_their_lengths(self):
        friends = (("a", "b"), ("aa", "ab"))
        orders = plain_orders(friends, ("a", "b", "aa", "ab"))
        self.assertEqual(orders[0], ["a", "aa", "ab", "b"])
        self.assert_orders(friends, ("a", "b", "aa", "ab"), orders)

    def assert_right(self, friends, row, orders):
        """The same, asked once each."""
        if not orders:
            for function, more in ((how_many, []), (nth_order, [0]), (number_of, [list(row)])):
                with self.assertRaises(Stuck) as caught:
                    function(friends, row, *more)
                self.assertEqual(caught.exception.left, left_over(friends, row))
            return
        self.assertEqual(how_many(friends, row), len(orders))
        self.assertEqual([nth_order(friends, row, number) for number in range(len(orders))], orders)
        self.assertEqual([number_of(friends, row, order) for order in orders], list(range(len(orders))))

    def test_rows_of_few_people_against_all_orders_of_coming(self):
        for many in range(4):
            for friends in all_friends(NAMES[:many]):
                for row in itertools.permutations(NAMES[:many]):
                    self.assert_right(friends, row, plain_orders(friends, row))

    def test_all_rows_of_four_people_against_all_orders_of_coming(self):
        for friends in all_friends(NAMES[:4]):
            rows = {}
            for order in itertools.permutations(NAMES[:4]):
                rows.setdefault(plain_row(friends, order), []).append(list(order))
            for row in itertools.permutations(NAMES[:4]):
                self.assert_right(friends, row, rows.get(row, []))

    def test_a_row_of_five_people_against_all_orders_of_coming(self):
        # Turned, since rising orders aren't the same ones whatever the names.
        for row in (NAMES[:5], ("cy", "eve", "ann", "di", "bob")):
            for friends in itertools.islice(all_friends(row), 0, None, 3):
                self.assert_right(friends, row, plain_orders(friends, row))

    def test_refused_at_how_many_and_below_0(self):
        for number in (1, 2, -1, -2):
            self.assert_refused(NoOrder, {"number": number}, nth_order, (), ("ann", "bob"), number)
        self.assertTrue(issubclass(NoOrder, LookupError))

    def test_stuck(self):
        for friends, row, left in STUCK:
            self.assertEqual(left_over(friends, row), left)
            self.assert_refused(Stuck, {"left": left}, how_many, friends, row)
            self.assert_refused(Stuck, {"left": left}, number_of, friends, row, row)
            # Of several refusals due the one told first goes: Stuck is told ahead of NoOrder.
            for number in (0, 1, -1, 10 ** 9):
                self.assert_refused(Stuck, {"left": left}, nth_order, friends, row, number)
        self.assertTrue(issubclass(Stuck, RuntimeError))

    def test_twelve_people_with_as_many_orders_as_can_be(self):
        friends, row = twelve_with_most_orders()
        many = math.factorial(12) // (12 * 7 * 3 * 3 * 4 * 2)
        self.assertEqual(many, 79200)
        self.assert_told(many, how_many, friends, row)
        before = []
        for number in [*range(0, many, 7000), many - 1]:
            order = nth_order(friends, row, number)
            self.assertTrue(shows_order(friends, row, order))
            self.assertGreater(order, before)
            self.assertEqual(number_of(friends, row, order), number)
            before = order
        self.assert_told(nth_order(friends, row, 7777), nth_order, friends, row, 7777)
        self.assert_told(7777, number_of, friends, row, nth_order(friends, row, 7777))
        self.assert_refused(NoOrder, {"number": many}, nth_order, friends, row, many)

    def test_twelve_people(self):
        for seed, chance in itertools.product(range(3), (0, 0.1, 0.2, 0.4, 1)):
            friends, people = by_chance(seed, 12, chance, strangers=3)
            row = plain_row(friends, people)
            many = how_many(friends, row)
            number = number_of(friends, row, people)
            self.assertTrue(0 <= number < many)
            self.assert_told(people, nth_order, friends, row, number)
            for other in {0, many // 2, many - 1}:
                order = nth_order(friends, row, other)
                self.assertTrue(shows_order(friends, row, order))
                self.assertEqual(number_of(friends, row, order), other)

    def test_somewhat_more_people(self):
        row = ["q" + letter for letter in "onmlkjihgfedcbap"]
        friends = tuple(sorted(tuple(sorted(pair)) for pair in zip(row[::2], row[1::2])))
        self.assertEqual(how_many(friends, row), math.prod(range(1, 16, 2)))

    def test_arguments(self):
        self.assert_arguments(how_many, "(friends, row)")
        self.assert_arguments(nth_order, "(friends, row, number)")
        self.assert_arguments(number_of, "(friends, row, order)")


if __name__ == "__main__":
    unittest.main()
