"""[20] friends and rows as texts, with [2] and [3] of them."""

import itertools
import random
import unittest

from asking import NAMES, NO_NAMES, Asking, all_friends, by_chance
from letinrow.errors import BadText
from letinrow.people import is_friends, is_row
from letinrow.texts import friends_in, friends_text, row_in, row_text

NO_WORDS = [name for name in NO_NAMES if isinstance(name, str)]


def texts_of_few_signs(signs, many):
    for length in range(many + 1):
        for some in itertools.product(signs, repeat=length):
            yield "".join(some)


class FriendsTexts(Asking):
    def assert_both_ways(self, text, friends):
        self.assert_told(text, friends_text, friends)
        self.assert_told(friends, friends_in, text)

    def assert_bad(self, text):
        self.assert_refused(BadText, {"text": text}, friends_in, text)

    def test_none_one_many(self):
        self.assert_both_ways("-", ())
        self.assert_both_ways("ann-bob", (("ann", "bob"),))
        self.assert_both_ways("a-b", (("a", "b"),))
        self.assert_both_ways("ann-bob ann-cy bob-cy", (("ann", "bob"), ("ann", "cy"), ("bob", "cy")))
        self.assert_both_ways("abcdefgh-abcdefgi b-c", (("abcdefgh", "abcdefgi"), ("b", "c")))
        self.assert_both_ways("a-ab ab-b", (("a", "ab"), ("ab", "b")))

    def test_a_bare_text(self):
        self.assert_bad("")

    def test_blanks(self):
        for text in (" ", "  ", " ann-bob", "ann-bob ", "ann-bob  bob-cy", " ann-bob bob-cy", "ann-bob bob-cy ", " -",
                     "- ", "ann- bob", "ann -bob", "ann - bob", "ann-bob\tbob-cy", "ann-bob\nbob-cy", "ann-bob\n",
                     "\nann-bob", "-\n", "ann-bob,bob-cy"):
            self.assert_bad(text)

    def test_strokes(self):
        for text in ("--", "ann--bob", "ann-bob-cy", "ann-", "-bob", "-ann-bob", "ann-bob-", "ann", "annbob", "- -",
                     "- ann-bob", "ann-bob -", "ann-bob - bob-cy", "---", "ann-bob bob"):
            self.assert_bad(text)

    def test_no_names(self):
        for word in NO_WORDS:
            self.assert_bad(f"{word}-zed")
            self.assert_bad(f"ann-{word}")
            self.assert_bad(f"ann-bob ann-{word}")
        for word in ("abcdefghi", "Ann", "ANN", "an1", "4", "a.b", "a_b"):
            self.assert_bad(word)

    def test_a_pair_that_is_none(self):
        for text in ("ann-ann", "bob-ann", "ann-bob cy-cy", "ann-bob cy-bob", "ab-a"):
            self.assert_bad(text)

    def test_pairs_that_do_not_rise(self):
        for text in ("ann-bob ann-bob", "ann-cy ann-bob", "bob-cy ann-di", "ann-bob bob-cy ann-di",
                     "ann-bob ann-cy ann-cy"):
            self.assert_bad(text)

    def test_of_rows(self):
        for text in ("ann bob", "ann", "ann bob-cy", "order ann"):
            self.assert_bad(text)

    def test_the_texts_lead_back(self):
        for friends in all_friends(NAMES[:4]):
            text = friends_text(friends)
            self.assert_same(friends_in(text), friends)
            self.assert_same(text, " ".join("-".join(pair) for pair in friends) or "-")

    def test_texts_of_few_signs(self):
        """Of all of them just those are taken that are the text of FRIENDS."""
        names = ["a", "b", "aa", "ab", "ba", "bb"]
        pairs = list(itertools.combinations(sorted(names), 2))
        right = {"-".join(pair): (pair,) for pair in pairs}
        right.update({"-".join(one) + " " + "-".join(other): (one, other)
                      for one, other in itertools.combinations(pairs, 2)})
        right["-"] = ()
        taken = 0
        for text in texts_of_few_signs("ab- ", 7):
            try:
                told = friends_in(text)
            except BadText as error:
                self.assertEqual(error.text, text)
                told = None
            wanted = right.get(text)
            if told is not None and wanted is None:
                # One of longer names.
                self.assertTrue(is_friends(told))
                self.assertEqual(friends_text(told), text)
                self.assertGreater(max(map(len, text.replace("-", " ").split(" "))), 2)
            else:
                self.assert_same(told, wanted)
            taken += told is not None
        self.assertGreater(taken, 20)

    def test_as_many_as_may_be(self):
        friends = by_chance(71, 30, 1)[0]
        self.assertEqual(len(friends), 300)
        text = friends_text(friends)
        self.assert_both_ways(text, friends)
        self.assert_bad(text + " " + text)
        self.assert_bad(text + " ")

    def test_arguments(self):
        self.assert_arguments(friends_text, "(friends)")
        self.assert_arguments(friends_in, "(text)")
        self.assertEqual(BadText.__bases__, (ValueError,))


class RowTexts(Asking):
    def assert_both_ways(self, text, row):
        self.assert_told(text, row_text, row)
        self.assert_told(row, row_in, text)

    def assert_bad(self, text):
        self.assert_refused(BadText, {"text": text}, row_in, text)

    def test_none_one_many(self):
        self.assert_both_ways("-", ())
        self.assert_both_ways("ann", ("ann",))
        self.assert_both_ways("a", ("a",))
        self.assert_both_ways("bob ann abcdefgh z", ("bob", "ann", "abcdefgh", "z"))

    def test_a_bare_text(self):
        self.assert_bad("")

    def test_blanks(self):
        for text in (" ", "  ", " ann", "ann ", "ann  bob", " ann bob", "ann bob ", " -", "- ", "ann\tbob", "ann\nbob",
                     "ann\n", "\nann", "-\n", "ann,bob", "ann\rbob", "ann\u00a0bob"):
            self.assert_bad(text)

    def test_strokes(self):
        for text in ("--", "ann-bob", "ann -", "- ann", "- -", "ann - bob", "-ann", "ann-"):
            self.assert_bad(text)

    def test_no_names(self):
        for word in NO_WORDS:
            if word != "-" and word != "a b":
                self.assert_bad(word)
            if word != "a b":
                self.assert_bad(f"{word} zed")
                self.assert_bad(f"ann {word}")
                self.assert_bad(f"ann {word} zed")

    def test_a_name_twice(self):
        for text in ("ann ann", "ann bob ann", "bob ann ann"):
            self.assert_bad(text)

    def test_the_texts_lead_back(self):
        for many in range(5):
            for row in itertools.permutations(NAMES[:4], min(many, 4)):
                text = row_text(row)
                self.assert_same(row_in(text), row)
                self.assert_same(text, " ".join(row) or "-")

    def test_texts_of_few_signs(self):
        taken = 0
        for text in texts_of_few_signs("ab- A", 5):
            try:
                told = row_in(text)
            except BadText as error:
                self.assertEqual(error.text, text)
                words = text.split(" ")
                self.assertTrue(text == "" or len(set(words)) < len(words) or set(text) & set("-A") or "" in words)
                self.assertNotEqual(text, "-")
                continue
            self.assertTrue(is_row(told))
            self.assertEqual(row_text(told), text)
            taken += 1
        self.assertGreater(taken, 50)

    def test_as_many_as_may_be(self):
        people = tuple(random.Random(72).sample(["q" + one + other for one in "abcde" for other in "abcde"], 24))
        self.assert_both_ways(" ".join(people), people)
        self.assert_bad(" ".join(people + people[7:8]))

    def test_arguments(self):
        self.assert_arguments(row_text, "(row)")
        self.assert_arguments(row_in, "(text)")


if __name__ == "__main__":
    unittest.main()
