"""[8] orders, rings and chains shown, and [1] (a) of rows alone, with [2] and [3] of them."""

import itertools
import random
import unittest

from asking import NAMES, NO_NAMES, OTHER_THINGS, Asking, all_friends, by_chance, plain_orders, plain_row, tampered
from letinrow.bars import bars
from letinrow.loose import left_over
from letinrow.ordercheck import shows_chain, shows_order, shows_ring
from letinrow.orders import order_of
from test_bars import plain_bars

WORDS = ("friend", "between", "behind")
FRIENDS = (("ann", "di"), ("ann", "eve"), ("bob", "cy"))
ROW = ("ann", "eve", "di", "bob", "cy")
KNOT = (("ann", "cy"), ("bob", "di"))
KNOTTED = ("ann", "bob", "cy", "di")


def plain_links(friends, row, thing, last):
    """Whether a thing is a list of pairs of unlike people of the row, each of whom bars the next, or that last one."""
    if type(thing) is not list or not thing:
        return False
    if not all(type(pair) is tuple and len(pair) == 2 and pair[0] in row for pair in thing):
        return False
    whos = [pair[0] for pair in thing]
    if len(set(whos)) < len(whos) or last not in row:
        return False
    nexts = whos[1:] + [last]
    return all(pair[1] in plain_bars(friends, row, pair[0], later) for pair, later in zip(thing, nexts))


def plain_ring(friends, row, thing):
    ringed = type(thing) is list and len(thing) > 1 and type(thing[0]) is tuple and len(thing[0]) > 0
    return ringed and plain_links(friends, row, thing, thing[0][0])


def plain_chain(friends, row, one, other, thing):
    if not plain_links(friends, row, thing, other):
        return False
    return thing[0][0] == one and other not in [who for who, _ in thing]


class ShowsOrder(Asking):
    def test_the_told_order(self):
        self.assert_judged(True, shows_order, FRIENDS, ROW, order_of(FRIENDS, ROW)[1])

    def test_just_those_whose_row_it_is(self):
        orders = plain_orders(FRIENDS, ROW)
        self.assertGreater(len(orders), 3)
        for order in itertools.permutations(ROW):
            self.assert_judged(list(order) in orders, shows_order, FRIENDS, ROW, list(order))

    def test_a_tuple_for_the_list(self):
        for order in plain_orders(FRIENDS, ROW):
            self.assert_judged(False, shows_order, FRIENDS, ROW, tuple(order))
            self.assert_judged(False, shows_order, FRIENDS, ROW, [order])
            self.assert_judged(False, shows_order, FRIENDS, ROW, [(who,) for who in order])

    def test_somebody_left_out_twice_or_strange(self):
        order = ["ann", "di", "eve", "bob", "cy"]
        self.assert_judged(True, shows_order, FRIENDS, ROW, order)
        for at in range(5):
            self.assert_judged(False, shows_order, FRIENDS, ROW, order[:at] + order[at + 1:])
            for who in order + ["zed"]:
                self.assert_judged(False, shows_order, FRIENDS, ROW, order[:at] + [who] + order[at:])
                if who != order[at]:
                    self.assert_judged(False, shows_order, FRIENDS, ROW, order[:at] + [who] + order[at + 1:])
        self.assert_judged(False, shows_order, FRIENDS, ROW, order + ["zed"])
        self.assert_judged(False, shows_order, FRIENDS, ROW, order + order)

    def test_what_is_no_name(self):
        order = ["ann", "di", "eve", "bob", "cy"]
        for name in NO_NAMES:
            for thing in ([name], [name, "ann"], ["ann", name], order + [name], order[:2] + [name] + order[3:]):
                self.assert_judged(False, shows_order, FRIENDS, ROW, thing)
            self.assert_judged(False, shows_order, (), ("ann",), [name])
            self.assert_judged(False, shows_order, (), (), [name])

    def test_other_things(self):
        for thing in OTHER_THINGS:
            for row in ((), ("a",), ("ann", "bob"), ROW):
                self.assert_judged(False, shows_order, FRIENDS, row, thing)

    def test_a_bare_row_and_bare_things(self):
        self.assert_judged(True, shows_order, FRIENDS, (), [])
        self.assert_judged(True, shows_order, (), (), [])
        self.assert_judged(False, shows_order, FRIENDS, (), ())
        self.assert_judged(False, shows_order, FRIENDS, (), ["ann"])
        self.assert_judged(False, shows_order, FRIENDS, ("ann",), [])
        self.assert_judged(True, shows_order, FRIENDS, ("ann",), ["ann"])

    def test_rows_that_have_none(self):
        for order in itertools.permutations(KNOTTED):
            self.assert_judged(False, shows_order, KNOT, KNOTTED, list(order))

    def test_tampered_ones(self):
        dice = random.Random(3)
        for friends in itertools.islice(all_friends(NAMES[:4]), 0, None, 3):
            row = plain_row(friends, NAMES[:4])
            orders = plain_orders(friends, row)
            for _ in range(8):
                thing = tampered(dice, dice.choice(orders))
                wanted = type(thing) is list and thing in orders
                self.assertIs(shows_order(friends, row, thing), wanted, (friends, row, thing))

    def test_as_many_as_may_be(self):
        for seed, chance in enumerate((0, 0.05, 0.1, 0.3, 1)):
            friends, people = by_chance(seed, 24, chance, strangers=3)
            row = plain_row(friends, people)
            self.assert_judged(True, shows_order, friends, row, people)
            self.assert_judged(True, shows_order, friends, row, order_of(friends, row)[1])
            self.assert_judged(False, shows_order, friends, row, people[:-1])
            for at in range(0, 23, 4):
                other = people[:at] + [people[at + 1], people[at]] + people[at + 2:]
                self.assert_judged(plain_row(friends, other) == row, shows_order, friends, row, other)

    def test_arguments(self):
        self.assert_arguments(shows_order, "(friends, row, thing)")


class ShowsRing(Asking):
    def test_the_told_rings(self):
        for friends, row in (
            ((("ann", "cy"),), ("ann", "bob", "cy")),
            (KNOT, KNOTTED),
            (KNOT, KNOTTED + ("eve",)),
            ((("ann", "cy"), ("bob", "di"), ("di", "eve")), ("flo", "ann", "bob", "cy", "di", "eve")),
        ):
            word, ring = order_of(friends, row)
            self.assertEqual(word, "ring")
            self.assert_judged(True, shows_ring, friends, row, ring)
            for at in range(len(ring)):
                self.assert_judged(True, shows_ring, friends, row, ring[at:] + ring[:at])
                self.assert_tampered_judged(friends, row, ring, at)

    def assert_tampered_judged(self, friends, row, ring, at):
        """A ring cut, turned about, one of its pairs another one: judged as the words of [8] say."""
        who, word = ring[at]
        cut = ring[:at] + ring[at + 1:]
        self.assert_judged(plain_ring(friends, row, cut), shows_ring, friends, row, cut)
        turned = ring[::-1]
        self.assert_judged(plain_ring(friends, row, turned), shows_ring, friends, row, turned)
        for other in WORDS + ("", "bars", "Friend", "friend ", None, True, 0, (word,), [word], who):
            thing = ring[:at] + [(who, other)] + ring[at + 1:]
            self.assert_judged(plain_ring(friends, row, thing), shows_ring, friends, row, thing)
        for other in ("zed", "", None, 1, True, (who,), [who], word):
            self.assert_judged(False, shows_ring, friends, row, ring[:at] + [(other, word)] + ring[at + 1:])
        for pair in ([who, word], (who, word, word), (who,), (), who, (word, who), ((who, word),), None):
            self.assert_judged(False, shows_ring, friends, row, ring[:at] + [pair] + ring[at + 1:])
        self.assert_judged(False, shows_ring, friends, row, ring[:at] + [ring[at]] + ring[at:])

    def test_by_hand(self):
        friends, row = (("ann", "cy"),), ("ann", "bob", "cy")
        self.assert_judged(True, shows_ring, friends, row, [("bob", "behind"), ("cy", "between")])
        self.assert_judged(True, shows_ring, friends, row, [("cy", "between"), ("bob", "behind")])
        self.assert_judged(False, shows_ring, friends, row, [("bob", "between"), ("cy", "behind")])
        self.assert_judged(False, shows_ring, friends, row, [("bob", "friend"), ("cy", "between")])
        self.assert_judged(False, shows_ring, friends, row, [("ann", "friend"), ("cy", "between"), ("bob", "behind")])
        self.assert_judged(False, shows_ring, friends, row, [("ann", "behind"), ("bob", "behind")])
        self.assert_judged(False, shows_ring, friends, row, (("bob", "behind"), ("cy", "between")))

    def test_a_who_twice(self):
        friends, row = (("ann", "cy"),), ("ann", "bob", "cy")
        ring = [("bob", "behind"), ("cy", "between")]
        self.assert_judged(False, shows_ring, friends, row, ring + ring)
        self.assert_judged(False, shows_ring, friends, row, ring + ring[:1])

    def test_of_one_pair_or_none(self):
        for friends, row in ((KNOT, KNOTTED), (FRIENDS, ROW), ((), ())):
            self.assert_judged(False, shows_ring, friends, row, [])
            self.assert_judged(False, shows_ring, friends, row, ())
            for who, word in itertools.product(row, WORDS):
                self.assert_judged(False, shows_ring, friends, row, [(who, word)])

    def test_other_things(self):
        for thing in OTHER_THINGS:
            for friends, row in ((KNOT, KNOTTED), (FRIENDS, ROW), ((), ())):
                for part in (thing, [thing, thing], [thing, ("cy", "between")], [("bob", "friend"), thing]):
                    self.assert_judged(False, shows_ring, friends, row, part)

    def test_just_one_of_order_and_ring(self):
        row = NAMES[:4]
        rings = [
            list(zip(whos, words)) for many in (2, 3, 4)
            for whos in itertools.permutations(row, many) if whos[0] == min(whos)
            for words in itertools.product(WORDS, repeat=many)
        ]
        for friends in all_friends(row):
            shown = [ring for ring in rings if shows_ring(friends, row, ring)]
            orders = [order for order in itertools.permutations(row) if shows_order(friends, row, list(order))]
            self.assertEqual(not shown, bool(orders))
            self.assertEqual(not shown, not left_over(friends, row))

    def test_tampered_ones(self):
        dice = random.Random(4)
        shown = 0
        for friends in itertools.islice(all_friends(NAMES[:5]), 0, None, 4):
            row = NAMES[:5]
            word, thing = order_of(friends, row)
            if word == "ring":
                for _ in range(12):
                    other = tampered(dice, thing)
                    wanted = plain_ring(friends, row, other)
                    self.assertIs(shows_ring(friends, row, other), wanted, (friends, row, other))
                    shown += wanted
        self.assertGreater(shown, 0)

    def test_as_many_as_may_be(self):
        for seed, chance in itertools.product(range(4), (0.05, 0.1, 0.3)):
            friends, people = by_chance(seed, 24, chance, strangers=3)
            word, ring = order_of(friends, people)
            if word == "ring":
                self.assert_judged(True, shows_ring, friends, people, ring)
            self.assert_judged(False, shows_ring, friends, plain_row(friends, people), ring)

    def test_arguments(self):
        self.assert_arguments(shows_ring, "(friends, row, thing)")


class ShowsChain(Asking):
    def test_of_one_pair(self):
        for one, other in itertools.product(ROW + ("zed",), repeat=2):
            words = [] if "zed" in (one, other) else plain_bars(FRIENDS, ROW, one, other)
            for who, word in itertools.product(ROW, WORDS):
                wanted = who == one and word in words
                self.assert_judged(wanted, shows_chain, FRIENDS, ROW, one, other, [(who, word)])

    def test_of_several(self):
        chain = [("ann", "friend"), ("di", "between")]
        self.assert_judged(True, shows_chain, FRIENDS, ROW, "ann", "eve", chain)
        chain = [("ann", "behind"), ("bob", "friend")]
        self.assert_judged(True, shows_chain, FRIENDS, ROW, "ann", "cy", chain)
        friends = (("ann", "bob"), ("bob", "cy"), ("cy", "di"))
        row = ("ann", "bob", "cy", "di")
        chain = [("ann", "friend"), ("bob", "friend"), ("cy", "friend")]
        self.assert_judged(True, shows_chain, friends, row, "ann", "di", chain)
        self.assert_judged(True, shows_chain, friends, row, "bob", "di", chain[1:])
        self.assert_judged(True, shows_chain, friends, row, "ann", "cy", chain[:2])

    def test_another_first_one_or_last_one(self):
        friends = (("ann", "bob"), ("bob", "cy"), ("cy", "di"))
        row = ("ann", "bob", "cy", "di")
        chain = [("bob", "friend"), ("cy", "friend")]
        for one, other in itertools.product(row + ("zed",), repeat=2):
            self.assert_judged((one, other) == ("bob", "di"), shows_chain, friends, row, one, other, chain)

    def test_other_among_the_whos_or_a_who_twice(self):
        friends, row = (("ann", "cy"),), ("ann", "bob", "cy")
        round_about = [("bob", "behind"), ("cy", "between")]
        self.assert_judged(False, shows_chain, friends, row, "bob", "bob", round_about)
        self.assert_judged(True, shows_chain, friends, row, "bob", "cy", round_about[:1])
        self.assert_judged(False, shows_chain, friends, row, "bob", "cy", round_about + round_about[:1])
        self.assert_judged(False, shows_chain, friends, row, "ann", "bob", [("ann", "behind")] + round_about)
        self.assert_judged(True, shows_chain, friends, row, "ann", "bob", [("ann", "friend"), ("cy", "between")])

    def test_a_bare_list(self):
        for one, other in itertools.product(ROW, repeat=2):
            self.assert_judged(False, shows_chain, FRIENDS, ROW, one, other, [])
            self.assert_judged(False, shows_chain, FRIENDS, ROW, one, other, ())

    def test_other_kinds(self):
        chain = [("ann", "friend"), ("di", "between")]
        self.assert_judged(False, shows_chain, FRIENDS, ROW, "ann", "eve", tuple(chain))
        self.assert_judged(False, shows_chain, FRIENDS, ROW, "ann", "eve", [list(pair) for pair in chain])
        self.assert_judged(False, shows_chain, FRIENDS, ROW, "ann", "eve", [chain[0], list(chain[1])])
        self.assert_judged(False, shows_chain, FRIENDS, ROW, "ann", "eve", [pair + (0,) for pair in chain])
        self.assert_judged(False, shows_chain, FRIENDS, ROW, "ann", "eve", ["ann", "di"])
        for name in NO_NAMES:
            self.assert_judged(False, shows_chain, FRIENDS, ROW, "ann", "eve", [chain[0], (name, "between")])
            self.assert_judged(False, shows_chain, FRIENDS, ROW, "ann", "eve", [chain[0], ("di", name)])
        for thing in OTHER_THINGS:
            self.assert_judged(False, shows_chain, FRIENDS, ROW, "ann", "eve", thing)
            self.assert_judged(False, shows_chain, FRIENDS, ROW, "ann", "eve", [thing])
            self.assert_judged(False, shows_chain, FRIENDS, ROW, "ann", "eve", [chain[0], thing])

    def test_each_of_few_people(self):
        row = NAMES[:4]
        links = list(itertools.product(row, WORDS))
        things = [list(some) for many in (1, 2) for some in itertools.product(links, repeat=many)]
        for friends in itertools.islice(all_friends(row), 0, None, 5):
            for one, other in (("ann", "cy"), ("bob", "di"), ("di", "bob"), ("cy", "cy")):
                for thing in things:
                    wanted = plain_chain(friends, row, one, other, thing)
                    self.assertIs(shows_chain(friends, row, one, other, thing), wanted)

    def test_tampered_ones(self):
        dice = random.Random(5)
        shown = 0
        for seed in range(40):
            friends, people = by_chance(seed, 8, 0.3)
            row = plain_row(friends, people)
            thing = [(row[0], "behind"), (row[1], "behind"), (row[2], "behind"), (row[3], "friend")]
            for _ in range(12):
                other = [(who, dice.choice(bars(friends, row, who, row[5]) + ["friend"])) for who in row[:5]]
                other = other[dice.randrange(5):]
                for chain in (other, tampered(dice, other), tampered(dice, thing)):
                    wanted = plain_chain(friends, row, row[1], row[5], chain)
                    self.assertIs(shows_chain(friends, row, row[1], row[5], chain), wanted)
                    shown += wanted
        self.assertGreater(shown, 0)

    def test_as_many_as_may_be(self):
        row = ["q" + letter for letter in "xwvutsrqponmlkjihgfedcba"]
        chain = [(who, "behind") for who in row[:-1]]
        self.assertEqual(len(row), 24)
        self.assert_judged(True, shows_chain, (), row, row[0], row[-1], chain)
        self.assert_judged(True, shows_chain, (), row, row[0], row[-1], chain[:9] + chain[11:])
        self.assert_judged(False, shows_chain, (), row, row[0], row[-1], chain[::-1])

    def test_arguments(self):
        self.assert_arguments(shows_chain, "(friends, row, one, other, thing)")


if __name__ == "__main__":
    unittest.main()
