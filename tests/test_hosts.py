"""[12] behind whom each came, how many can have been let in ahead of it, with [1] (d), [2], [3] and [9] of them."""

import unittest

from asking import Asking, befriended, by_chance, plain_row, rows_with_orders
from letinrow.allorders import how_many, nth_order
from letinrow.coming import host_of, put_back, row_of
from letinrow.early import early_order, late_order
from letinrow.errors import Stuck
from letinrow.hosts import hung, put_back_bounds
from test_allorders import STUCK, twelve_with_most_orders

FRIENDS = (("ann", "di"), ("ann", "eve"), ("bob", "cy"))
ROW = ("ann", "eve", "di", "bob", "cy")


def hosts_as_they_came(friends, order):
    """A dict of host_of of each, as it came."""
    return {who: host_of(friends, row_of(friends, order[:at]), who) for at, who in enumerate(order)}


def plain_hung(friends, row):
    told = []
    for place, who in enumerate(row):
        ahead = [other for other in row[:place] if befriended(friends, other, who)]
        told.append((who, ahead[-1] if ahead else None))
    return told


def plain_bounds(friends, row, orders):
    counts = [dict(put_back(friends, order)) for order in orders]
    return [(who, min(count[who] for count in counts), max(count[who] for count in counts)) for who in row]


class Hosts(Asking):
    def assert_asked(self, hosts, bounds, friends, row):
        self.assert_told(hosts, hung, friends, row)
        self.assert_told(bounds, put_back_bounds, friends, row)

    def test_a_bare_row(self):
        self.assert_asked([], [], (), ())
        self.assert_asked([], [], FRIENDS, ())

    def test_one_alone(self):
        self.assert_asked([("ann", None)], [("ann", 0, 0)], FRIENDS, ("ann",))

    def test_nobody_friends(self):
        row = ("cy", "ann", "bob")
        self.assert_asked([(who, None) for who in row], [(who, 0, 0) for who in row], (), row)

    def test_all_friends(self):
        friends = (("ann", "bob"), ("ann", "cy"), ("bob", "cy"))
        hosts = [("cy", None), ("ann", "cy"), ("bob", "ann")]
        self.assert_asked(hosts, [("cy", 0, 0), ("ann", 0, 0), ("bob", 0, 0)], friends, ("cy", "ann", "bob"))

    def test_one_the_friend_of_all(self):
        friends = (("ann", "bob"), ("ann", "cy"), ("ann", "di"))
        hosts = [("ann", None), ("cy", "ann"), ("bob", "ann"), ("di", "ann")]
        bounds = [("ann", 0, 0), ("cy", 0, 0), ("bob", 1, 1), ("di", 2, 2)]
        self.assert_asked(hosts, bounds, friends, ("ann", "cy", "bob", "di"))

    def test_several_orders(self):
        hosts = [("ann", None), ("eve", "ann"), ("di", "ann"), ("bob", None), ("cy", "bob")]
        bounds = [("ann", 0, 0), ("eve", 0, 0), ("di", 1, 1), ("bob", 0, 2), ("cy", 0, 2)]
        self.assert_asked(hosts, bounds, FRIENDS, ROW)

    def test_the_last_of_several_friends(self):
        friends = (("ann", "cy"), ("bob", "cy"))
        hosts = [("ann", None), ("bob", None), ("cy", "bob")]
        self.assert_asked(hosts, [("ann", 0, 0), ("bob", 0, 0), ("cy", 0, 0)], friends, ("ann", "bob", "cy"))

    def assert_right(self, friends, row, orders):
        """Against all the row's orders."""
        told = hung(friends, row)
        self.assertEqual(told, plain_hung(friends, row))
        for order in orders:
            self.assertEqual(hosts_as_they_came(friends, order), dict(told))
        self.assertEqual(put_back_bounds(friends, row), plain_bounds(friends, row, orders))

    def test_rows_of_few_people_against_all_their_orders(self):
        for friends, row, orders in rows_with_orders():
            self.assert_right(friends, row, orders)

    def test_some_orders_of_twelve_people(self):
        friends, row = twelve_with_most_orders()
        bounds = put_back_bounds(friends, row)
        self.assertTrue(any(least < most for _, least, most in bounds))
        for number in range(0, how_many(friends, row), 4000):
            order = nth_order(friends, row, number)
            self.assertEqual(hosts_as_they_came(friends, order), dict(hung(friends, row)))
            counts = dict(put_back(friends, order))
            self.assertTrue(all(least <= counts[who] <= most for who, least, most in bounds))

    def test_as_many_as_may_be(self):
        for seed, chance in enumerate((0, 0.05, 0.1, 0.2, 0.5, 1)):
            friends, people = by_chance(seed, 24, chance, strangers=3)
            row = plain_row(friends, people)
            bounds = [
                (who, dict(put_back(friends, late_order(friends, row, who)))[who],
                 dict(put_back(friends, early_order(friends, row, who)))[who])
                for who in row
            ]
            self.assert_asked(plain_hung(friends, row), bounds, friends, row)
            counts = dict(put_back(friends, people))
            self.assertTrue(all(least <= counts[who] <= most for who, least, most in bounds))

    def test_stuck(self):
        for friends, row, left in STUCK:
            self.assert_refused(Stuck, {"left": left}, hung, friends, row)
            self.assert_refused(Stuck, {"left": left}, put_back_bounds, friends, row)

    def test_arguments(self):
        self.assert_arguments(hung, "(friends, row)")
        self.assert_arguments(put_back_bounds, "(friends, row)")


if __name__ == "__main__":
    unittest.main()
