"""[5] coming to a row, with [2] and [3] of it."""

import itertools
import unittest

from asking import NAMES, Asking, all_friends, as_lists, by_chance, plain_come, plain_row
from letinrow.coming import host_of, let_in, put_back, row_of
from letinrow.errors import Here
from letinrow.people import is_row

FRIENDS = (("ann", "eve"), ("bob", "eve"), ("cy", "eve"), ("di", "flo"))
ROW = ("cy", "ann", "di", "bob", "gus")


class OneComes(Asking):
    def assert_comes(self, host, row, friends, before, who):
        self.assert_told(host, host_of, friends, before, who)
        self.assert_told(row, let_in, friends, before, who)

    def test_no_friend_there(self):
        self.assert_comes(None, ROW + ("hal",), FRIENDS, ROW, "hal")
        self.assert_comes(None, ("di", "gus", "eve"), FRIENDS, ("di", "gus"), "eve")
        self.assert_comes(None, ("ann", "bob"), (), ("ann",), "bob")

    def test_one_friend_there(self):
        self.assert_comes("di", ("cy", "ann", "di", "flo", "bob", "gus"), FRIENDS, ROW, "flo")
        self.assert_comes("di", ("di", "flo", "gus"), FRIENDS, ("di", "gus"), "flo")
        self.assert_comes("gus", ("di", "gus", "hal"), (("gus", "hal"),), ("di", "gus"), "hal")

    def test_several_friends_there(self):
        self.assert_comes("bob", ("cy", "ann", "di", "bob", "eve", "gus"), FRIENDS, ROW, "eve")
        self.assert_comes("ann", ("cy", "bob", "ann", "eve", "di"), FRIENDS, ("cy", "bob", "ann", "di"), "eve")

    def test_the_first_lets_in(self):
        self.assert_comes("ann", ("ann", "eve", "di", "gus"), FRIENDS, ("ann", "di", "gus"), "eve")

    def test_a_bare_row(self):
        self.assert_comes(None, ("ann",), FRIENDS, (), "ann")
        self.assert_comes(None, ("ann",), (), (), "ann")

    def test_who_is_there_is_refused(self):
        for who in ROW:
            for function in (host_of, let_in):
                self.assert_refused(Here, {"who": who}, function, FRIENDS, ROW, who)
                self.assert_refused(Here, {"who": who}, function, (), ROW, who)
                self.assert_refused(Here, {"who": who}, function, (), (who,), who)

    def test_each_coming_of_few_people(self):
        for friends in all_friends(NAMES[:4]):
            for row in itertools.permutations(NAMES[:3]):
                wanted = plain_come(friends, list(row), "di")
                place = wanted.index("di")
                self.assertEqual(let_in(friends, row, "di"), tuple(wanted))
                # One at the end without a host, and one let in by the last, stand alike.
                known = [who for who in row if (who, "di") in friends]
                self.assertEqual(host_of(friends, row, "di"), row[place - 1] if known else None)

    def test_arguments(self):
        self.assert_arguments(host_of, "(friends, row, who)")
        self.assert_arguments(let_in, "(friends, row, who)")


class ManyCome(Asking):
    def test_nobody(self):
        self.assert_told((), row_of, FRIENDS, [])
        self.assert_told([], put_back, FRIENDS, [])
        self.assert_told((), row_of, (), [])

    def test_one(self):
        self.assert_told(("ann",), row_of, FRIENDS, ["ann"])
        self.assert_told([("ann", 0)], put_back, FRIENDS, ["ann"])

    def test_nobody_friends(self):
        order = ["cy", "ann", "eve", "bob"]
        self.assert_told(("cy", "ann", "eve", "bob"), row_of, (), order)
        self.assert_told([("cy", 0), ("ann", 0), ("eve", 0), ("bob", 0)], put_back, (), order)

    def test_all_friends(self):
        order = ["cy", "ann", "eve", "bob"]
        friends = tuple(itertools.combinations(sorted(order), 2))
        self.assert_told(("cy", "ann", "eve", "bob"), row_of, friends, order)
        self.assert_told([("cy", 0), ("ann", 0), ("eve", 0), ("bob", 0)], put_back, friends, order)

    def test_some_friends(self):
        friends = (("ann", "di"), ("ann", "eve"), ("bob", "cy"))
        order = ["ann", "bob", "di", "cy", "eve"]
        self.assert_told(("ann", "eve", "di", "bob", "cy"), row_of, friends, order)
        wanted = [("ann", 0), ("eve", 0), ("di", 1), ("bob", 2), ("cy", 1)]
        self.assert_told(wanted, put_back, friends, order)

    def test_one_with_whom_all_others_are_friends(self):
        friends = (("ann", "bob"), ("ann", "cy"), ("ann", "di"))
        order = ["ann", "di", "bob", "cy"]
        self.assert_told(("ann", "cy", "bob", "di"), row_of, friends, order)
        self.assert_told([("ann", 0), ("cy", 0), ("bob", 1), ("di", 2)], put_back, friends, order)

    def assert_right(self, friends, order):
        row = plain_row(friends, order)
        self.assertEqual(row_of(friends, order), row)
        told = put_back(friends, order)
        self.assertEqual([who for who, _ in told], list(row))
        for place, (who, many) in enumerate(told):
            later = set(order[order.index(who) + 1:])
            self.assertEqual(many, len(later & set(row[:place])))

    def test_each_order_of_few_people(self):
        for friends in all_friends(NAMES[:4]):
            for order in itertools.permutations(NAMES[:4]):
                self.assert_right(friends, list(order))

    def test_as_many_as_may_be(self):
        for seed, chance in enumerate((0, 0.05, 0.1, 0.2, 0.5, 0.9, 1)):
            friends, order = by_chance(seed, 24, chance, strangers=3)
            self.assert_right(friends, order)
            row = row_of(friends, order)
            self.assertTrue(is_row(row))
            self.assert_told(row, row_of, friends, order)
            self.assert_told(put_back(as_lists(friends), tuple(order)), put_back, friends, order)

    def test_arguments(self):
        self.assert_arguments(row_of, "(friends, order)")
        self.assert_arguments(put_back, "(friends, order)")


if __name__ == "__main__":
    unittest.main()
