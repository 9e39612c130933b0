"""[7] who can have come last, and [1] (b), with [2] and [3] of them."""

import itertools
import random
import unittest

from asking import NAMES, Asking, all_friends, by_chance, plain_loose, plain_row, rows_and_friends
from letinrow.loose import goers, is_loose, left_over, loose_in


class Loose(Asking):
    def assert_loose(self, wanted, friends, row):
        self.assert_told(wanted, loose_in, friends, row)
        for who in row:
            self.assert_told(who in wanted, is_loose, friends, row, who)

    def test_a_bare_row(self):
        self.assert_loose([], (), ())
        self.assert_loose([], (("ann", "bob"),), ())

    def test_one(self):
        self.assert_loose(["ann"], (), ("ann",))
        self.assert_loose(["ann"], (("ann", "bob"),), ("ann",))

    def test_no_friend(self):
        self.assert_loose(["cy"], (), ("ann", "bob", "cy"))
        self.assert_loose(["ann"], (("ann", "zed"),), ("cy", "bob", "ann"))

    def test_a_friend_right_ahead_and_none_behind(self):
        friends = (("ann", "bob"),)
        self.assert_loose(["bob", "cy"], friends, ("ann", "bob", "cy"))
        self.assert_loose(["ann", "cy"], friends, ("bob", "ann", "di", "cy"))
        self.assert_loose(["bob"], friends, ("cy", "ann", "bob"))

    def test_a_friend_behind(self):
        friends = (("ann", "bob"), ("bob", "cy"))
        self.assert_loose(["cy"], friends, ("ann", "bob", "cy"))
        self.assert_loose([], friends, ("ann", "bob", "di", "cy"))

    def test_a_friend_ahead_with_somebody_between(self):
        self.assert_loose([], (("ann", "cy"),), ("ann", "bob", "cy"))
        self.assert_loose(["cy"], (("ann", "cy"), ("bob", "cy")), ("ann", "bob", "cy"))

    def test_several_in_the_rows_order(self):
        friends = (("ann", "di"), ("bob", "cy"), ("eve", "flo"))
        self.assert_loose(["ann", "cy", "eve"], friends, ("di", "ann", "bob", "cy", "flo", "eve"))
        self.assert_loose(["cy", "ann", "gus"], friends, ("bob", "cy", "di", "ann", "flo", "gus"))

    def test_against_coming(self):
        for friends, row in rows_and_friends():
            self.assertEqual(loose_in(friends, row), plain_loose(friends, row))
            for who in row:
                self.assertIs(is_loose(friends, row, who), who in plain_loose(friends, row))

    def test_as_many_as_may_be(self):
        for seed, chance in enumerate((0, 0.05, 0.1, 0.2, 0.5, 1)):
            friends, people = by_chance(seed, 24, chance, strangers=3)
            for row in (tuple(people), plain_row(friends, people)):
                self.assert_told(plain_loose(friends, row), loose_in, friends, row)

    def test_arguments(self):
        self.assert_arguments(is_loose, "(friends, row, who)")
        self.assert_arguments(loose_in, "(friends, row)")


def plain_goers(friends, row, but, choose):
    """Who goes, and who is left, when choose says which loose one goes."""
    row, gone = list(row), []
    while True:
        can_go = [who for who in plain_loose(friends, row) if who not in but]
        if not can_go:
            return gone, tuple(row)
        gone.append(choose(can_go))
        row.remove(gone[-1])


class Going(Asking):
    def assert_going(self, gone, left, friends, row, **but):
        self.assert_told(gone, goers, friends, row, **but)
        self.assert_told(left, left_over, friends, row, **but)

    def test_a_bare_row(self):
        self.assert_going([], (), (), ())
        self.assert_going([], (), (("ann", "bob"),), (), but=["ann"])

    def test_rows_of_comings(self):
        self.assert_going(["cy", "bob", "ann"], (), (), ("ann", "bob", "cy"))
        friends = (("ann", "di"), ("ann", "eve"), ("bob", "cy"))
        self.assert_going(["cy", "bob", "di", "eve", "ann"], (), friends, ("ann", "di", "eve", "bob", "cy"))

    def test_the_hindmost_each_time(self):
        friends = (("ann", "bob"), ("cy", "di"))
        self.assert_going(["di", "cy", "bob", "ann"], (), friends, ("ann", "bob", "cy", "di"))
        friends = (("ann", "bob"), ("ann", "cy"), ("ann", "di"))
        self.assert_going(["bob", "cy", "di", "ann"], (), friends, ("ann", "bob", "cy", "di"))

    def test_some_are_left(self):
        friends = (("ann", "cy"), ("bob", "di"))
        row = ("ann", "bob", "cy", "di")
        self.assert_going([], row, friends, row)
        self.assert_going(["flo", "eve"], row, friends, row + ("eve", "flo"))
        self.assert_going(["flo"], ("eve",) + row, friends + (("di", "flo"),), ("eve",) + row + ("flo",))

    def test_but_some_of_the_row(self):
        row = ("ann", "bob", "cy")
        self.assert_going(["cy"], ("ann", "bob"), (), row, but=["bob"])
        self.assert_going([], row, (), row, but=["cy"])
        self.assert_going(["cy", "bob"], ("ann",), (), row, but=["ann"])
        self.assert_going([], row, (), row, but=["ann", "bob", "cy"])
        friends = (("ann", "bob"), ("ann", "cy"))
        self.assert_going(["bob"], ("ann", "cy"), friends, row, but=["cy"])
        self.assert_going([], row, friends, row, but=["bob"])

    def test_but_people_who_are_not_there(self):
        row = ("ann", "bob", "cy")
        self.assert_going(["cy", "bob", "ann"], (), (), row, but=["zed", "di"])
        self.assert_going(["cy"], ("ann", "bob"), (), row, but=["zed", "bob", "bob"])
        self.assert_going(["cy", "bob", "ann"], (), (), row, but=[])

    def test_the_same_whichever_go(self):
        dice = random.Random(7)
        for friends, row in rows_and_friends():
            for but in ((), row[1:2], row[-1:], ("zed",)):
                gone, left = plain_goers(friends, row, but, lambda names: names[-1])
                self.assertEqual(goers(friends, row, but=but), gone)
                self.assertEqual(left_over(friends, row, but=but), left)
                for choose in (min, max, dice.choice, lambda names: names[0]):
                    self.assertEqual(plain_goers(friends, row, but, choose)[1], left)

    def test_the_same_when_any_loose_one_goes_first(self):
        row = NAMES[:5]
        for friends in itertools.islice(all_friends(row), 0, None, 3):
            left = left_over(friends, row)
            for who in loose_in(friends, row):
                others = tuple(other for other in row if other != who)
                self.assertEqual(left_over(friends, others), left)

    def test_who_can_have_come_last_can_still_when_another_goes(self):
        for friends, row in rows_and_friends():
            loose = loose_in(friends, row)
            for gone in loose:
                others = tuple(other for other in row if other != gone)
                self.assertLessEqual(set(loose) - {gone}, set(loose_in(friends, others)))

    def test_as_many_as_may_be(self):
        dice = random.Random(8)
        for seed, chance in enumerate((0, 0.03, 0.06, 0.1, 0.2, 0.5, 1)):
            friends, people = by_chance(seed, 24, chance, strangers=3)
            came = plain_row(friends, people)
            self.assert_told((), left_over, friends, came)
            for row in (tuple(people), came, came[:10] + came[12:] + came[10:12]):
                for but in ((), people[:3]):
                    gone, left = plain_goers(friends, row, but, lambda names: names[-1])
                    self.assert_going(gone, left, friends, row, but=but)
                    self.assertEqual(plain_goers(friends, row, but, dice.choice)[1], left)

    def test_arguments(self):
        self.assert_arguments(goers, "(friends, row, *, but=())")
        self.assert_arguments(left_over, "(friends, row, *, but=())")


if __name__ == "__main__":
    unittest.main()
