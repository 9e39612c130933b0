"""[21] a sheet of deeds and asks, with [2] and [3] of it."""

import itertools
import random
import unittest

from asking import NAMES, NO_NAMES, Asking, plain_orders
from letinrow.allorders import how_many
from letinrow.book import Book
from letinrow.early import earliest
from letinrow.errors import BadRow, Bare, Gone, Here, Known, Strange, Stuck
from letinrow.loose import left_over, loose_in
from letinrow.orders import order_of
from letinrow.sheet import run

PLAIN = ("serve", "undo", "row", "order", "loose", "ways")
WITH_ONE = ("come", "early", "host", "back")
WITH_TWO = ("friend", "part")
WORDS = PLAIN + WITH_ONE + WITH_TWO + ("seen",)


def blanked(names, word=None):
    """The text of some names, behind a word, if any; a stroke where nothing is left."""
    return " ".join(([word] if word else []) + list(names)) or "-"


def plain_ask(book, word, names):
    """What is to be told of a row, the book being asked or changed."""
    friends, row = book.friends(), book.row()
    if word == "friend":
        return "done" if book.befriend(*names) is None else ""
    if word == "part":
        return "done" if book.part(*names) is None else ""
    if word == "come":
        return f"{book.come(*names)}"
    if word == "serve":
        return book.serve()
    if word == "undo":
        return {True: "yes", False: "no"}[book.undo()]
    if word == "row":
        return blanked(row)
    if word == "loose":
        return blanked(loose_in(friends, row))
    if word == "ways":
        return f"{how_many(friends, row)}"
    if word == "early":
        if names[0] not in row:
            raise Gone(names[0])
        return f"{earliest(friends, row, names[0])}"
    if word == "host":
        host = book.host(names[0])
        return "none" if host is None else host
    if word == "back":
        return f"{book.put_back(names[0])}"
    seen = row if word == "order" else tuple(name for name in names if name != "-")
    told, thing = order_of(friends, seen)
    return blanked(thing, "order") if told == "order" else blanked(left_over(friends, seen), "none")


def plain_run(text):
    book, told = Book(), []
    for line in text.split("\n"):
        word, *names = line.split(" ")
        try:
            told.append(plain_ask(book, word, names))
        except (Known, Strange, Here, Bare, Gone, Stuck) as error:
            told.append("refused " + type(error).__name__)
    return told


def sheet(*lines):
    return "\n".join(lines)


class Run(Asking):
    def assert_run(self, *pairs):
        """That of rows, the first one of each pair, just that is told, the other one."""
        text = sheet(*(line for line, _ in pairs))
        wanted = [told for _, told in pairs]
        self.assertEqual(plain_run(text), wanted)
        self.assert_told(wanted, run, text)

    def test_the_bare_text_has_no_rows(self):
        self.assert_told([], run, "")

    def test_deeds(self):
        self.assert_run(
            ("friend ann di", "done"), ("friend cy bob", "done"), ("come ann", "0"), ("come bob", "1"),
            ("come di", "1"), ("come cy", "3"), ("row", "ann di bob cy"), ("serve", "ann"), ("row", "di bob cy"),
            ("part bob cy", "done"), ("row", "di bob cy"), ("come ann", "1"), ("row", "di ann bob cy"),
            ("undo", "yes"), ("undo", "yes"), ("row", "di bob cy"), ("undo", "yes"), ("row", "ann di bob cy"),
        )

    def test_undo(self):
        self.assert_run(
            ("undo", "no"), ("come ann", "0"), ("undo", "yes"), ("undo", "no"), ("row", "-"), ("friend ann bob", "done"),
            ("undo", "yes"), ("friend ann bob", "done"), ("part ann bob", "done"), ("undo", "yes"),
            ("friend ann bob", "refused Known"), ("undo", "yes"), ("undo", "no"),
        )

    def test_a_bare_row(self):
        self.assert_run(
            ("row", "-"), ("order", "order"), ("loose", "-"), ("ways", "1"), ("seen -", "order"), ("serve", "refused Bare"),
            ("early ann", "refused Gone"), ("host ann", "refused Gone"), ("back ann", "refused Gone"),
            ("come ann", "0"), ("serve", "ann"), ("row", "-"), ("order", "order"), ("loose", "-"), ("ways", "1"),
            ("seen -", "order"), ("serve", "refused Bare"),
        )

    def test_asks(self):
        deeds = [("friend ann di", "done"), ("friend ann eve", "done"), ("friend bob cy", "done"),
                 ("come ann", "0"), ("come bob", "1"), ("come di", "1"), ("come cy", "3"), ("come eve", "1")]
        self.assert_run(
            *deeds, ("row", "ann eve di bob cy"), ("order", "order ann di eve bob cy"), ("loose", "eve cy"),
            ("ways", "6"), ("early ann", "0"), ("early bob", "1"), ("early eve", "2"), ("early cy", "2"),
            ("host ann", "none"), ("host eve", "ann"), ("host cy", "bob"), ("back ann", "0"), ("back bob", "2"),
            ("back di", "1"), ("back cy", "1"),
        )

    def test_seen(self):
        self.assert_run(
            ("seen ann bob cy", "order ann bob cy"), ("seen ann", "order ann"), ("friend ann cy", "done"),
            ("seen ann bob cy", "none ann bob cy"), ("seen ann cy bob", "order ann cy bob"),
            ("come zed", "0"), ("seen ann bob cy", "none ann bob cy"), ("seen zed yan", "order zed yan"),
            ("seen -", "order"), ("row", "zed"), ("seen ann bob cy zed", "none ann bob cy"),
        )

    def test_order_and_who_is_left_over(self):
        self.assert_run(
            ("come ann", "0"), ("come bob", "1"), ("come cy", "2"), ("come di", "3"), ("friend ann cy", "done"),
            ("row", "ann bob cy di"), ("order", "none ann bob cy"), ("loose", "di"), ("ways", "refused Stuck"),
            ("early ann", "refused Stuck"), ("early di", "refused Stuck"), ("early zed", "refused Gone"),
            ("seen ann bob cy di", "none ann bob cy"), ("host cy", "none"), ("back cy", "0"),
            ("part cy ann", "done"), ("order", "order ann bob cy di"), ("ways", "1"), ("early di", "3"),
        )

    def test_nobody_loose(self):
        self.assert_run(
            ("come ann", "0"), ("come bob", "1"), ("come cy", "2"), ("come di", "3"), ("friend ann cy", "done"),
            ("friend bob di", "done"), ("loose", "-"), ("order", "none ann bob cy di"),
        )

    def test_early_of_one_not_in_the_row_ahead_of_stuck(self):
        deeds = [("come ann", "0"), ("come bob", "1"), ("come cy", "2"), ("friend ann cy", "done")]
        self.assert_run(*deeds, ("early zed", "refused Gone"), ("early ann", "refused Stuck"), ("serve", "ann"),
                        ("early ann", "refused Gone"), ("early bob", "0"))

    def test_each_refusal(self):
        self.assert_run(
            ("friend ann bob", "done"), ("friend ann bob", "refused Known"), ("friend bob ann", "refused Known"),
            ("part ann cy", "refused Strange"), ("part bob ann", "done"), ("part bob ann", "refused Strange"),
            ("come ann", "0"), ("come ann", "refused Here"), ("serve", "ann"), ("serve", "refused Bare"),
            ("early ann", "refused Gone"), ("host ann", "refused Gone"), ("back ann", "refused Gone"),
            ("come ann", "0"), ("come bob", "1"), ("come cy", "2"), ("friend ann cy", "done"),
            ("ways", "refused Stuck"), ("early ann", "refused Stuck"), ("undo", "yes"), ("ways", "1"),
        )

    def test_a_refusal_changes_nothing(self):
        self.assert_run(
            ("come ann", "0"), ("come ann", "refused Here"), ("part ann bob", "refused Strange"), ("row", "ann"),
            ("undo", "yes"), ("row", "-"), ("undo", "no"),
        )

    def test_hosts_of_the_book(self):
        # Served and parted since; a row's hung and put_back_bounds would tell otherwise.
        self.assert_run(
            ("friend ann cy", "done"), ("come ann", "0"), ("come bob", "1"), ("come cy", "1"), ("serve", "ann"),
            ("part ann cy", "done"), ("host cy", "ann"), ("back bob", "1"), ("serve", "cy"), ("back bob", "1"),
            ("come cy", "1"), ("host cy", "none"), ("back bob", "1"), ("back cy", "0"),
        )

    def test_people_called_as_words_are(self):
        lines = [("friend friend part", "done"), ("come friend", "0"), ("come come", "1"), ("come part", "1"),
                 ("row", "friend part come"), ("host part", "friend"), ("back come", "1"), ("early order", "refused Gone"),
                 ("come order", "3"), ("seen order row", "order order row"), ("seen seen", "order seen"),
                 ("part part friend", "done"), ("host part", "friend"), ("come none", "4"), ("host none", "none"),
                 ("serve", "friend"), ("come refused", "4")]
        self.assert_run(*lines)
        for word in WORDS + ("yes", "no", "done", "none", "refused", "known"):
            self.assert_run((f"come {word}", "0"), ("row", word), ("order", f"order {word}"), ("loose", word),
                            (f"early {word}", "0"), (f"seen {word}", f"order {word}"), ("serve", word))

    def test_each_told_by_itself(self):
        told = run("row\nrow")
        told.append("spoilt")
        self.assert_same(run("row\nrow"), ["-", "-"])

    def test_a_book_of_its_own_each_time(self):
        self.assert_same(run("come ann"), ["0"])
        self.assert_same(run("come ann"), ["0"])
        self.assert_same(run("row"), ["-"])

    def test_drawn_sheets(self):
        seen = set()
        for seed in range(150):
            dice = random.Random(seed)
            words = WORDS + ("come", "come", "come", "friend", "friend")
            lines = []
            for _ in range(60):
                word = dice.choice(words)
                many = 1 if word in WITH_ONE else 2 if word in WITH_TWO else 0
                names = dice.sample(NAMES[:5], dice.randrange(1, 6) if word == "seen" else many)
                lines.append(" ".join([word] + names))
            told = run(sheet(*lines))
            self.assert_same(told, plain_run(sheet(*lines)))
            seen |= {(line.split(" ")[0], text.split(" ")[-1] if text.startswith("refused") else text.split(" ")[0])
                     for line, text in zip(lines, told)}
        for wanted in (("friend", "Known"), ("part", "Strange"), ("come", "Here"), ("serve", "Bare"),
                       ("early", "Gone"), ("early", "Stuck"), ("ways", "Stuck"), ("host", "Gone"), ("back", "Gone"),
                       ("host", "none"), ("order", "none"), ("order", "order"), ("seen", "none"), ("undo", "no")):
            self.assertIn(wanted, seen)

    def test_orders_told_are_orders(self):
        lines = ["friend ann cy", "friend bob cy", "friend ann bob"]
        for row in itertools.permutations(("ann", "bob", "cy", "di")):
            told = run(sheet(*lines, "seen " + " ".join(row)))[-1].split(" ")
            orders = plain_orders((("ann", "bob"), ("ann", "cy"), ("bob", "cy")), row)
            self.assertEqual(told[0] == "order", bool(orders))
            if orders:
                self.assertIn(told[1:], orders)

    def test_as_many_as_may_be(self):
        people = ["q" + letter for letter in "abcdefghijklmnopqrstuvwx"]
        lines = [f"come {who}" for who in people] + [f"friend qa {who}" for who in people[1:]]
        lines += ["row", "order", "loose", "undo", "early qx", "back qb", "host qb", "serve", "row"]
        lines += ["seen " + " ".join(people), "seen " + " ".join(["q" + "x" * 6 + letter for letter in "abcdefghijk"])]
        lines += ["undo", "ways"]
        self.assertEqual(len(lines), 60)
        self.assertLessEqual(max(map(len, lines)), 200)
        self.assert_same(run(sheet(*lines)), plain_run(sheet(*lines)))
        self.assert_refused(BadRow, {"number": 60}, run, sheet(*lines) + "\n")

    def test_arguments(self):
        self.assert_arguments(run, "(text)")


class BadRows(Asking):
    def assert_bad_row(self, line):
        """That a row isn't so written, wherever it stands."""
        self.assert_refused(BadRow, {"number": 0}, run, line or "\n")
        self.assert_refused(BadRow, {"number": 2}, run, sheet("come ann", "row", line))
        self.assert_refused(BadRow, {"number": 1}, run, sheet("come ann", line, "row"))

    def test_words_that_are_none(self):
        for line in ("x", "Row", "ROW", "rows", "ro", "come-ann", "befriend ann bob", "put back", "put_back ann",
                     "host", "-", "- ann", "ann", "ann bob", "told_order", "log", "as_of 1", "twin", "None", "#", "0"):
            self.assert_bad_row(line)

    def test_too_few_and_too_many(self):
        for word in PLAIN:
            self.assertEqual(len(run(word)), 1)
            for line in (f"{word} ann", f"{word} {word}", f"{word} -"):
                self.assert_bad_row(line)
        for word in WITH_ONE:
            self.assertEqual(len(run(f"{word} ann")), 1)
            for line in (word, f"{word} ann bob", f"{word} -", f"{word} ann -", f"{word} ann ann"):
                self.assert_bad_row(line)
        for word in WITH_TWO:
            self.assertEqual(len(run(f"{word} ann bob")), 1)
            for line in (word, f"{word} ann", f"{word} ann bob cy", f"{word} -", f"{word} ann -", f"{word} - bob",
                         f"{word} ann-bob"):
                self.assert_bad_row(line)
        self.assert_bad_row("seen")

    def test_alike_ones(self):
        for line in ("friend ann ann", "part bob bob", "seen ann ann", "seen ann bob ann", "seen cy ann ann bob"):
            self.assert_bad_row(line)

    def test_blanks(self):
        for line in ("row", "come ann", "friend ann bob", "seen ann bob", "seen -"):
            self.assertEqual(len(run(line)), 1)
            self.assert_bad_row(f" {line}")
            self.assert_bad_row(f"{line} ")
            self.assert_bad_row(f"{line}\t")
            self.assert_bad_row(f"{line}\r")
            if " " in line:
                self.assert_bad_row(line.replace(" ", "  ", 1))
                self.assert_bad_row("  ".join(line.rsplit(" ", 1)))
                self.assert_bad_row(line.replace(" ", "\t"))
        for line in (" ", "  ", "\t", "seen ", "seen  ", "come ", "friend  ", "row "):
            self.assert_bad_row(line)

    def test_a_row_without_signs(self):
        self.assert_bad_row("")
        self.assert_refused(BadRow, {"number": 0}, run, "\n")
        self.assert_refused(BadRow, {"number": 0}, run, "\nrow")
        self.assert_refused(BadRow, {"number": 1}, run, "row\n\nrow")

    def test_a_line_feed_at_the_end(self):
        self.assert_refused(BadRow, {"number": 1}, run, "row\n")
        self.assert_refused(BadRow, {"number": 2}, run, "row\ncome ann\n")
        self.assert_refused(BadRow, {"number": 1}, run, "row\n\n")

    def test_no_names(self):
        for name in NO_NAMES:
            if isinstance(name, str) and "\n" not in name:
                for line in (f"come {name}", f"early {name}", f"host {name}", f"back {name}", f"friend ann {name}",
                             f"friend {name} zed", f"part ann {name}", f"seen zed {name}", f"seen {name} zed"):
                    if line not in ("seen zed a b", "seen a b zed"):
                        self.assert_bad_row(line)
        for name in ("abcdefghi", "Ann", "ann2", "an.", "an~"):
            self.assert_bad_row(f"come {name}")
            self.assert_bad_row(f"seen {name}")
            self.assert_bad_row(f"seen ann bob {name}")
        self.assertEqual(run("come abcdefgh\nseen abcdefgh"), ["0", "order abcdefgh"])

    def test_seen_strokes(self):
        self.assertEqual(run("seen -"), ["order"])
        for line in ("seen - -", "seen --", "seen - ann", "seen ann -", "seen ann - bob", "seen ann-bob", "seen -ann"):
            self.assert_bad_row(line)

    def test_the_first_of_several(self):
        self.assert_refused(BadRow, {"number": 1}, run, "row\nx\nrow\ny")
        self.assert_refused(BadRow, {"number": 3}, run, "row\nserve\nrow\nfriend ann ann\n\nx")

    def test_ahead_of_all_that_is_refused(self):
        self.assert_refused(BadRow, {"number": 3}, run, "serve\ncome ann\ncome ann\nx")
        self.assert_refused(BadRow, {"number": 1}, run, "host ann\nhost Ann")

    def test_a_value_error(self):
        self.assertEqual(BadRow.__bases__, (ValueError,))


if __name__ == "__main__":
    unittest.main()
