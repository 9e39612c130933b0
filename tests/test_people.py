"""[4] friends and rows, with [2] and [3] of them."""

import copy
import itertools
import unittest

from asking import NAMES, NO_NAMES, OTHER_THINGS, Asking, all_friends, as_lists, befriended, by_chance, same
from letinrow.people import are_friends, friends_of, is_friends, is_row

class Things(Asking):
    def assert_is(self, wanted, function, thing):
        """A truth, by place and by name, again and again, and the thing stays as it was."""
        before = copy.deepcopy(thing)
        for _ in range(2):
            self.assertIs(function(thing), wanted, f"{function.__name__} of {thing!r}")
            self.assertIs(function(thing=thing), wanted, f"{function.__name__} of {thing!r}")
            self.assertTrue(same(thing, before))


class IsFriends(Things):
    def test_right_ones(self):
        for thing in (
            (),
            (("a", "b"),),
            (("abcdefgh", "abcdefgi"),),
            (("a", "z"),),
            (("a", "b"), ("a", "c"), ("b", "c")),
            (("a", "c"), ("b", "c"), ("x", "y")),
            (("a", "aa"), ("aa", "aaa"), ("aa", "b")),
            (("ann", "bob"), ("bob", "cy"), ("cy", "di")),
        ):
            self.assert_is(True, is_friends, thing)

    def test_each_of_few_people(self):
        for friends in all_friends(NAMES[:4]):
            self.assert_is(True, is_friends, friends)

    def test_a_list_for_a_tuple(self):
        for thing in (
            [], [("a", "b")], [["a", "b"]], (["a", "b"],),
            (("a", "b"), ["a", "c"]), (["a", "b"], ("a", "c")), (["a", "b"], ["a", "c"]),
        ):
            self.assert_is(False, is_friends, thing)

    def test_pairs_that_are_none(self):
        for thing in (
            (("a", "a"),), (("b", "a"),), (("ab", "a"),), (("a", "b"), ("d", "c")),
            (("a",),), ((),), (("a", "b", "c"),), ("ab",), ("a", "b"), (1, 2), (None,), (True, False),
        ):
            self.assert_is(False, is_friends, thing)

    def test_pairs_that_do_not_rise(self):
        for thing in (
            (("a", "b"), ("a", "b")),
            (("a", "c"), ("a", "b")),
            (("b", "c"), ("a", "d")),
            (("a", "b"), ("c", "d"), ("b", "c")),
            (("a", "b"), ("a", "c"), ("a", "b")),
            (("a", "b"), ("b", "c"), ("b", "c")),
        ):
            self.assert_is(False, is_friends, thing)

    def test_just_the_rising_ones_of_all_their_turns(self):
        pairs = (("a", "b"), ("a", "c"), ("b", "c"), ("b", "d"))
        for thing in itertools.permutations(pairs):
            self.assert_is(thing == pairs, is_friends, thing)

    def test_names_that_are_none(self):
        for name in NO_NAMES:
            self.assert_is(False, is_friends, ((name, "z"),))
            self.assert_is(False, is_friends, (("a", name),))
            self.assert_is(False, is_friends, (("a", "b"), ("b", name)))
            self.assert_is(False, is_friends, ((name, name),))

    def test_other_things(self):
        for thing in OTHER_THINGS:
            self.assert_is(False, is_friends, thing)

    def test_as_many_as_may_be_and_more(self):
        pairs = tuple(itertools.combinations(sorted(one + other for one in "abcde" for other in "abcde"), 2))
        self.assertEqual(len(pairs), 300)
        self.assert_is(True, is_friends, pairs)
        self.assert_is(False, is_friends, pairs + (("a", "b"),))
        self.assert_is(True, is_friends, pairs + (("x", "y"),))


class IsRow(Things):
    def test_right_ones(self):
        for thing in ((), ("a",), ("z",), ("abcdefgh",), ("b", "a"), ("c", "a", "b"), ("a", "aa", "aaa"), NAMES):
            self.assert_is(True, is_row, thing)

    def test_a_list_for_a_tuple(self):
        for thing in ([], ["a"], ["a", "b"], (["a"],), ("a", ["b"])):
            self.assert_is(False, is_row, thing)

    def test_a_name_twice(self):
        for thing in (("a", "a"), ("a", "b", "a"), ("b", "a", "a"), ("a", "b", "c", "b")):
            self.assert_is(False, is_row, thing)

    def test_names_that_are_none(self):
        for name in NO_NAMES:
            self.assert_is(False, is_row, (name,))
            self.assert_is(False, is_row, (name, "z"))
            self.assert_is(False, is_row, ("z", name))
            self.assert_is(False, is_row, ("z", name, "y"))

    def test_each_sign(self):
        for number in range(0x250):
            sign = chr(number)
            for thing in (sign, "a" + sign, sign + "a"):
                self.assert_is(sign in "abcdefghijklmnopqrstuvwxyz", is_row, (thing,))

    def test_each_length(self):
        for length in range(20):
            self.assert_is(1 <= length <= 8, is_row, ("q" * length,))

    def test_other_things(self):
        for thing in OTHER_THINGS:
            self.assert_is(False, is_row, thing)

    def test_as_long_as_may_be(self):
        row = tuple("p" + letter for letter in "zyxwvutsrqponmlkjihgfedc")
        self.assertEqual(len(row), 24)
        self.assert_is(True, is_row, row)
        self.assert_is(False, is_row, row + row[:1])


class WhoIsWhose(Asking):
    FRIENDS = (("ann", "bob"), ("ann", "di"), ("bob", "cy"), ("cy", "di"), ("di", "eve"))

    def test_either_way_about(self):
        for one, other in self.FRIENDS:
            self.assert_told(True, are_friends, self.FRIENDS, one, other)
            self.assert_told(True, are_friends, self.FRIENDS, other, one)

    def test_nobody_else(self):
        for one, other in (("ann", "cy"), ("ann", "eve"), ("bob", "di"), ("bob", "eve"), ("cy", "eve")):
            self.assert_told(False, are_friends, self.FRIENDS, one, other)
            self.assert_told(False, are_friends, self.FRIENDS, other, one)

    def test_one_and_itself(self):
        for who in NAMES:
            self.assert_told(False, are_friends, self.FRIENDS, who, who)
            self.assert_told(False, are_friends, (), who, who)

    def test_people_without_friends(self):
        self.assert_told(False, are_friends, self.FRIENDS, "flo", "gus")
        self.assert_told(False, are_friends, self.FRIENDS, "flo", "ann")
        self.assert_told(False, are_friends, self.FRIENDS, "eve", "flo")
        self.assert_told(False, are_friends, (), "ann", "bob")

    def test_friends_of(self):
        for who, wanted in (
            ("ann", ["bob", "di"]), ("bob", ["ann", "cy"]), ("cy", ["bob", "di"]),
            ("di", ["ann", "cy", "eve"]), ("eve", ["di"]), ("flo", []),
        ):
            self.assert_told(wanted, friends_of, self.FRIENDS, who)
        self.assert_told([], friends_of, (), "ann")

    def test_friends_of_rises_where_pairs_come_otherwise(self):
        friends = (("a", "m"), ("b", "m"), ("m", "n"), ("m", "o"))
        self.assert_told(["a", "b", "n", "o"], friends_of, friends, "m")

    def test_many(self):
        friends, people = by_chance(1, 24, 0.4, strangers=6)
        self.assertTrue(is_friends(friends))
        for who in people + ["zed"]:
            wanted = [other for other in sorted(people + ["zed"]) if befriended(friends, who, other)]
            told = friends_of(friends, who)
            self.assertEqual(told, sorted(set(told)))
            self.assertEqual([other for other in told if other in people], wanted)
            for other in people:
                self.assertIs(are_friends(as_lists(friends), who, other), other in wanted)

    def test_arguments(self):
        self.assert_arguments(is_friends, "(thing)")
        self.assert_arguments(is_row, "(thing)")
        self.assert_arguments(are_friends, "(friends, one, other)")
        self.assert_arguments(friends_of, "(friends, who)")


if __name__ == "__main__":
    unittest.main()
