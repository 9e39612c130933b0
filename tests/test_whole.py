"""The interface as the document lists it, and [2] over the whole program."""

import copy
import importlib
import inspect
import itertools
import unittest

from asking import Asking, as_lists, lists_in, same, spoil
from letinrow.book import Book

FRIENDS = (("ann", "di"), ("ann", "eve"), ("bob", "cy"))
ROW = ("ann", "eve", "di", "bob", "cy")
ORDER = ["ann", "bob", "di", "cy", "eve"]
OTHER = ["ann", "di", "eve", "bob", "cy"]
KNOT, KNOTTED = (("ann", "cy"),), ("ann", "bob", "cy")
DEEDS = [("come", "ann"), ("come", "bob"), ("serve",), ("come", "cy")]
SIGHTS = [(0, ("bob", "ann")), (1, ("ann", "cy"))]
BAD_SIGHTS = [(0, ("bob", "gus")), (1, ("ann", "gus"))]
DAY = [("come", "ann", 0), ("come", "bob", 1), ("come", "di", 1), ("serve",)]
CLASH = [DAY, [("come", "bob", 0), ("come", "ann", 1), ("come", "di", 1)]]

# Of each function its file, its arguments as the document writes them, and some that it can be asked with.
ASKS = {
    "are_friends": ("people", "(friends, one, other)", (FRIENDS, "di", "ann"), {}),
    "friends_of": ("people", "(friends, who)", (FRIENDS, "ann"), {}),
    "host_of": ("coming", "(friends, row, who)", (FRIENDS, ROW, "flo"), {}),
    "let_in": ("coming", "(friends, row, who)", (FRIENDS, ROW, "flo"), {}),
    "row_of": ("coming", "(friends, order)", (FRIENDS, ORDER), {}),
    "put_back": ("coming", "(friends, order)", (FRIENDS, ORDER), {}),
    "done": ("deeds", "(friends, deeds, *, row=())", (FRIENDS, DEEDS), {"row": ("eve", "di")}),
    "is_loose": ("loose", "(friends, row, who)", (FRIENDS, ROW, "eve"), {}),
    "loose_in": ("loose", "(friends, row)", (FRIENDS, ROW), {}),
    "goers": ("loose", "(friends, row, *, but=())", (FRIENDS, ROW), {"but": ("bob",)}),
    "left_over": ("loose", "(friends, row, *, but=())", (FRIENDS, ROW), {"but": ["bob"]}),
    "bars": ("bars", "(friends, row, one, other)", (FRIENDS, ROW, "ann", "di"), {}),
    "order_of": ("orders", "(friends, row)", (KNOT, KNOTTED), {}),
    "how_many": ("allorders", "(friends, row)", (FRIENDS, ROW), {}),
    "nth_order": ("allorders", "(friends, row, number)", (FRIENDS, ROW, 2), {}),
    "number_of": ("allorders", "(friends, row, order)", (FRIENDS, ROW, ORDER), {}),
    "may_exchange": ("exchanges", "(friends, order, place)", (FRIENDS, ORDER, 2), {}),
    "pairs_apart": ("exchanges", "(one, other)", (ORDER, OTHER), {}),
    "exchanges": ("exchanges", "(friends, one, other)", (FRIENDS, ORDER, OTHER), {}),
    "earliest": ("early", "(friends, row, who)", (FRIENDS, ROW, "bob"), {}),
    "latest": ("early", "(friends, row, who)", (FRIENDS, ROW, "bob"), {}),
    "early_order": ("early", "(friends, row, who)", (FRIENDS, ROW, "bob"), {}),
    "late_order": ("early", "(friends, row, who)", (FRIENDS, ROW, "bob"), {}),
    "came_ahead": ("early", "(friends, row)", (FRIENDS, ROW), {}),
    "chain_of": ("early", "(friends, row, one, other)", (FRIENDS, ROW, "ann", "eve"), {}),
    "hung": ("hosts", "(friends, row)", (FRIENDS, ROW), {}),
    "put_back_bounds": ("hosts", "(friends, row)", (FRIENDS, ROW), {}),
    "history_of": ("histories", "(friends, served, row, *, elders=())", (KNOT, ("ann",), ("bob", "cy", "di")),
                   {"elders": ("ann", "bob", "di")}),
    "never_in": ("histories", "(friends, served, row, *, elders=())", (KNOT, ("ann",), ("bob", "cy", "di")),
                 {"elders": ("ann", "bob", "di")}),
    "times_of": ("histories", "(friends, served, row, who, *, elders=())", (KNOT, ("ann",), ("bob", "cy"), "cy"),
                 {"elders": ("ann",)}),
    "seen_after": ("sights", "(friends, served, sights)", (FRIENDS, ("bob",), SIGHTS), {}),
    "first_bad": ("days", "(days)", ([DAY, DAY + DAY],), {}),
    "explains": ("days", "(friends, days)", (FRIENDS, [DAY]), {}),
    "told_pairs": ("days", "(days)", ([DAY],), {}),
    "friendships": ("friendships", "(days)", (CLASH,), {}),
    "how_many_between": ("friendships", "(days)", ([DAY, DAY],), {}),
    "friends_text": ("texts", "(friends)", (FRIENDS,), {}),
    "friends_in": ("texts", "(text)", ("ann-di bob-cy",), {}),
    "row_text": ("texts", "(row)", (ROW,), {}),
    "row_in": ("texts", "(text)", ("bob ann",), {}),
    "run": ("sheet", "(text)", ("come ann\nrow\nserve",), {}),
}
# Those that are asked of a thing, the last of some right ones.
JUDGES = {
    "is_friends": ("people", "(thing)", (FRIENDS,), {}),
    "is_row": ("people", "(thing)", (ROW,), {}),
    "shows_order": ("ordercheck", "(friends, row, thing)", (FRIENDS, ROW, ORDER), {}),
    "shows_ring": ("ordercheck", "(friends, row, thing)", (KNOT, KNOTTED, [("bob", "behind"), ("cy", "between")]), {}),
    "shows_chain": ("ordercheck", "(friends, row, one, other, thing)",
                    (FRIENDS, ROW, "ann", "eve", [("ann", "friend"), ("di", "between")]), {}),
    "shows_exchanges": ("exchanges", "(friends, one, other, thing)", (FRIENDS, ORDER, ORDER, [2, 2]), {}),
    "shows_history": ("historycheck", "(friends, served, row, thing, *, elders=())",
                      (FRIENDS, ("bob",), ("ann", "cy"), [("come", "ann"), ("serve",), ("come", "cy")]),
                      {"elders": ("bob",)}),
    "shows_never": ("historycheck", "(friends, served, row, thing, *, elders=())",
                    (KNOT, (), KNOTTED, [("bob", "behind", ("cy",))]), {"elders": ("cy",)}),
    "shows_seen": ("sightcheck", "(friends, served, sights, thing)",
                   (FRIENDS, ("bob",), BAD_SIGHTS, (1, [("ann", "behind", ("gus",))])), {}),
    "shows_clash": ("friendships", "(days, thing)", (CLASH, [("ann", "di")]), {}),
}


def functions(table):
    for name, (module, arguments, places, names) in table.items():
        yield getattr(importlib.import_module(f"letinrow.{module}"), name), arguments, places, names


class Interface(Asking):
    def test_each_stands_in_its_own_file_with_its_arguments(self):
        for name, (module, arguments, _, _) in {**ASKS, **JUDGES}.items():
            function = getattr(importlib.import_module(f"letinrow.{module}"), name)
            self.assertTrue(inspect.isfunction(function), name)
            self.assertEqual(function.__module__, f"letinrow.{module}")
            self.assertEqual(function.__name__, name)
            self.assert_arguments(function, arguments)

    def test_each_file(self):
        listed = {module for module, _, _, _ in {**ASKS, **JUDGES}.values()} | {"errors", "book"}
        self.assertEqual(len(listed), 21)
        for module in listed:
            importlib.import_module(f"letinrow.{module}")
        self.assertEqual(Book.__module__, "letinrow.book")


class Everywhere(Asking):
    def test_in_each_way_of_asking_and_again(self):
        for function, _, places, names in functions(ASKS):
            with self.subTest(function.__name__):
                self.assert_told(function(*places, **names), function, *places, **names)

    def test_judges_in_each_way_of_asking(self):
        for function, _, places, names in functions(JUDGES):
            with self.subTest(function.__name__):
                self.assert_judged(True, function, *places, **names)

    def test_judges_are_told_just_what_is_told(self):
        # A list for the tuple, or a tuple for the list, and whatever is in it.
        for function, _, (*places, thing), names in functions(JUDGES):
            for other in (list(thing) if isinstance(thing, tuple) else tuple(thing), as_lists(thing), [thing], (thing,)):
                if not same(other, thing):
                    with self.subTest(function.__name__):
                        self.assert_judged(False, function, *places, other, **names)

    def test_nothing_is_kept_to_be_read_later(self):
        for function, _, places, names in itertools.chain(functions(ASKS), functions(JUDGES)):
            with self.subTest(function.__name__):
                judge = function.__name__ in JUDGES
                places = list(places[:-1]) + [copy.deepcopy(places[-1])] if judge else as_lists(places)
                names = {name: as_lists(value) for name, value in names.items()}
                wanted = function(*copy.deepcopy(places), **copy.deepcopy(names))
                handed_in = copy.deepcopy((places, names))
                told = function(*handed_in[0], **handed_in[1])
                for part in lists_in([handed_in[0], list(handed_in[1].values())]):
                    part.clear()
                self.assert_same(told, wanted)
                self.assert_same(function(*places, **names), wanted)

    def test_no_two_told_lists_are_one_and_the_same(self):
        for function, _, places, names in functions(ASKS):
            with self.subTest(function.__name__):
                one, other = function(*places, **names), function(*places, **names)
                own = [id(part) for part in lists_in([one, other])]
                self.assertEqual(len(own), len(set(own)))
                wanted = copy.deepcopy(other)
                spoil(one)
                self.assert_same(other, wanted)

    def test_behind_a_star_by_names_alone(self):
        for function, arguments, places, names in itertools.chain(functions(ASKS), functions(JUDGES)):
            if names:
                with self.subTest(function.__name__), self.assertRaises(TypeError):
                    function(*places, *names.values())
                function(*places)


if __name__ == "__main__":
    unittest.main()
