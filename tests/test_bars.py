"""[8] what bars, with [2] and [3] of it."""

import itertools
import unittest

from asking import Asking, all_friends, befriended, by_chance, plain_row, rows_and_friends, NAMES
from letinrow.bars import bars


def plain_bars(friends, row, one, other):
    """The words, each seen by itself, as the document has them."""
    ahead = row[:row.index(one)]
    behind = row[row.index(one) + 1:]
    known = [who for who in ahead if befriended(friends, who, one)]
    words = set()
    if other in behind and befriended(friends, one, other):
        words.add("friend")
    if known and other in ahead[ahead.index(known[-1]) + 1:]:
        words.add("between")
    if not known and other in behind:
        words.add("behind")
    return sorted(words)


class Bars(Asking):
    def test_friend(self):
        friends = (("ann", "bob"), ("ann", "di"), ("bob", "cy"))
        row = ("ann", "bob", "cy", "di")
        self.assert_told(["friend"], bars, friends, row, "bob", "cy")
        self.assert_told([], bars, friends, row, "bob", "di")
        self.assert_told([], bars, friends, row, "bob", "ann")
        self.assert_told([], bars, friends, row, "cy", "bob")

    def test_between(self):
        friends = (("ann", "eve"), ("bob", "eve"))
        row = ("ann", "bob", "cy", "di", "eve", "flo")
        self.assert_told(["between"], bars, friends, row, "eve", "cy")
        self.assert_told(["between"], bars, friends, row, "eve", "di")
        self.assert_told([], bars, friends, row, "eve", "bob")
        self.assert_told([], bars, friends, row, "eve", "ann")
        self.assert_told([], bars, friends, row, "eve", "flo")

    def test_behind(self):
        friends = (("bob", "di"),)
        row = ("ann", "bob", "cy", "di", "eve")
        self.assert_told(["behind"], bars, friends, row, "ann", "eve")
        self.assert_told(["behind"], bars, friends, row, "ann", "bob")
        self.assert_told(["behind"], bars, friends, row, "cy", "di")
        self.assert_told([], bars, friends, row, "cy", "bob")
        self.assert_told([], bars, friends, row, "di", "eve")
        self.assert_told([], bars, friends, row, "eve", "ann")

    def test_several_words(self):
        friends = (("ann", "bob"), ("bob", "cy"))
        row = ("ann", "cy", "bob")
        self.assert_told(["behind", "friend"], bars, friends, row, "ann", "bob")
        self.assert_told(["behind", "friend"], bars, friends, row, "cy", "bob")
        self.assert_told(["behind"], bars, friends, row, "ann", "cy")

    def test_one_and_itself(self):
        row = ("ann", "bob", "cy")
        for friends in all_friends(row):
            for who in row:
                self.assert_told([], bars, friends, row, who, who)

    def test_a_friend_who_is_not_in_the_row_is_no_matter(self):
        self.assert_told(["behind"], bars, (("ann", "zed"),), ("bob", "ann", "cy"), "ann", "cy")

    def test_who_is_not_in_the_row_bars_nobody(self):
        friends = (("ann", "zed"),)
        self.assert_told([], bars, friends, ("ann", "bob"), "zed", "ann")
        self.assert_told([], bars, friends, ("ann", "bob"), "ann", "zed")

    def test_each_of_few_people(self):
        for friends, row in rows_and_friends():
            for one, other in itertools.product(row, repeat=2):
                self.assertEqual(bars(friends, row, one, other), plain_bars(friends, row, one, other))

    def test_who_bars_came_ahead_in_each_order(self):
        row = NAMES[:4]
        for friends in all_friends(row):
            orders = [order for order in itertools.permutations(row) if plain_row(friends, order) == row]
            pairs = [pair for pair in itertools.permutations(row, 2) if bars(friends, row, *pair)]
            wanted = [
                order for order in itertools.permutations(row)
                if all(order.index(one) < order.index(other) for one, other in pairs)
            ]
            self.assertEqual(orders, wanted)

    def test_as_many_as_may_be(self):
        for seed, chance in enumerate((0, 0.1, 0.5, 1)):
            friends, people = by_chance(seed, 24, chance, strangers=3)
            row = tuple(people)
            for one, other in itertools.product(row[::3], row[::2]):
                self.assert_told(plain_bars(friends, row, one, other), bars, friends, row, one, other)

    def test_arguments(self):
        self.assert_arguments(bars, "(friends, row, one, other)")


if __name__ == "__main__":
    unittest.main()
