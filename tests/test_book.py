"""[18] and [19] a book of a row, and [1] (f) of it, with [2] and [3] of it."""

import inspect
import itertools
import random
import unittest

from asking import NAMES, Asking, befriended, by_chance, plain_come, plain_orders, spoil
from letinrow.book import Book
from letinrow.errors import Bare, Gone, Here, Known, NoDeed, Strange
from letinrow.histories import history_of
from letinrow.orders import order_of

LETTERS = "abcdefghijklmnopqrstuvwxyz"


def told_of(book, deed):
    """What is told of a deed, or the refusal of it."""
    word, *handed_in = deed
    try:
        return getattr(book, word)(*handed_in)
    except (Known, Strange, Here, Bare) as error:
        return error


def book_of(deeds):
    book = Book()
    for deed in deeds:
        told = told_of(book, deed)
        assert not isinstance(told, Exception), deed
    return book


class PlainBook:
    """What is to be told behind some deeds that stand, done one by one as a person would."""

    def __init__(self, deeds):
        self.pairs, self.row, self.served, self.came = set(), [], [], []
        self.hosts, self.backs = {}, {}
        for word, *handed_in in deeds:
            getattr(self, word)(*handed_in)

    def befriend(self, one, other):
        self.pairs.add((min(one, other), max(one, other)))

    def part(self, one, other):
        self.pairs.remove((min(one, other), max(one, other)))

    def come(self, who):
        row = plain_come(self.pairs, self.row, who)
        place = row.index(who)
        known = place > 0 and befriended(self.pairs, row[place - 1], who)
        self.hosts[who], self.backs[who] = row[place - 1] if known else None, 0
        for other in self.row[place:]:
            self.backs[other] += 1
        self.row = row
        self.came.append(who)

    def serve(self):
        who = self.row.pop(0)
        self.served.append(who)
        self.came.remove(who)


class Checking(Asking):
    def assert_book(self, book, deeds, log=None):
        """That a book tells what is to be told behind these deeds that stand."""
        plain = PlainBook(deeds)
        self.assert_told(tuple(plain.row), book.row)
        self.assert_told(tuple(sorted(plain.pairs)), book.friends)
        self.assert_told(tuple(plain.served), book.served)
        self.assert_told(len(deeds), book.deeds)
        self.assert_told(list(deeds if log is None else log), book.log)
        self.assert_told(plain.came, book.told_order)
        self.assert_told(order_of(tuple(sorted(plain.pairs)), tuple(plain.row)), book.order)
        self.assertEqual(len(book), len(plain.row))
        self.assertEqual(repr(book), f"Book({len(plain.row)})")
        for who in plain.row:
            self.assert_told(plain.hosts[who], book.host, who)
            self.assert_told(plain.backs[who], book.put_back, who)
        for who in set(plain.served + ["zed"]) - set(plain.row):
            self.assert_refused(Gone, {"who": who}, book.host, who)
            self.assert_refused(Gone, {"who": who}, book.put_back, who)

    def assert_changes_nothing(self, error, fields, book, deed):
        """That a deed is refused, by places and by names, and that the book tells the same then."""
        before = snapshot(book)
        word, *handed_in = deed
        method = getattr(book, word)
        names = list(inspect.signature(method).parameters)
        for some, more in ((handed_in, {}), ([], dict(zip(names, handed_in)))):
            with self.assertRaises(error) as caught:
                method(*some, **more)
            self.assertIs(type(caught.exception), error)
            for field, value in fields.items():
                self.assert_same(getattr(caught.exception, field), value)
            self.assertEqual(snapshot(book), before)


def snapshot(book):
    """All that a book tells."""
    whos = [(who, book.host(who), book.put_back(who)) for who in book.row()]
    return (
        book.row(), book.friends(), book.served(), book.deeds(), book.log(), book.order(), book.told_order(),
        len(book), repr(book), whos,
    )


DEEDS = [
    ("befriend", "di", "ann"), ("come", "ann"), ("come", "bob"), ("befriend", "bob", "cy"), ("come", "di"),
    ("serve",), ("come", "cy"), ("part", "ann", "di"), ("come", "eve"), ("serve",), ("come", "ann"),
]


class Deeds(Checking):
    def test_a_bare_book(self):
        self.assert_book(Book(), [])
        self.assertEqual(repr(Book()), "Book(0)")
        self.assert_same(Book().order(), ("order", []))

    def test_befriend(self):
        book = Book()
        self.assertIs(book.befriend("cy", "bob"), None)
        self.assertIs(book.befriend(one="ann", other="di"), None)
        self.assertIs(book.befriend(other="ann", one="bob"), None)
        deeds = [("befriend", "cy", "bob"), ("befriend", "ann", "di"), ("befriend", "bob", "ann")]
        self.assert_book(book, deeds)
        self.assert_same(book.friends(), (("ann", "bob"), ("ann", "di"), ("bob", "cy")))

    def test_known(self):
        book = book_of([("befriend", "cy", "bob"), ("come", "cy")])
        self.assert_changes_nothing(Known, {"pair": ("bob", "cy")}, book, ("befriend", "bob", "cy"))
        self.assert_changes_nothing(Known, {"pair": ("bob", "cy")}, book, ("befriend", "cy", "bob"))
        book.befriend("bob", "ann")

    def test_part(self):
        book = book_of([("befriend", "ann", "bob"), ("befriend", "cy", "bob"), ("befriend", "ann", "cy")])
        self.assertIs(book.part("bob", "ann"), None)
        self.assertIs(book.part(other="bob", one="cy"), None)
        self.assert_same(book.friends(), (("ann", "cy"),))
        self.assert_same(book.log()[3:], [("part", "bob", "ann"), ("part", "cy", "bob")])
        book.befriend("ann", "bob")
        self.assert_same(book.friends(), (("ann", "bob"), ("ann", "cy")))

    def test_strange(self):
        book = book_of([("befriend", "ann", "bob"), ("befriend", "ann", "cy"), ("part", "ann", "bob")])
        self.assert_changes_nothing(Strange, {"pair": ("ann", "bob")}, book, ("part", "ann", "bob"))
        self.assert_changes_nothing(Strange, {"pair": ("ann", "bob")}, book, ("part", "bob", "ann"))
        self.assert_changes_nothing(Strange, {"pair": ("yan", "zed")}, book, ("part", "zed", "yan"))
        self.assert_changes_nothing(Strange, {"pair": ("ann", "bob")}, Book(), ("part", "bob", "ann"))

    def test_come_tells_the_place(self):
        book = book_of([("befriend", "ann", "di"), ("befriend", "bob", "cy")])
        self.assert_same(book.come("ann"), 0)
        self.assert_same(book.come(who="bob"), 1)
        self.assert_same(book.come("di"), 1)
        self.assert_same(book.come("cy"), 3)
        self.assert_same(book.come("eve"), 4)
        self.assert_same(book.row(), ("ann", "di", "bob", "cy", "eve"))
        self.assert_same(book.log()[2:4], [("come", "ann"), ("come", "bob")])

    def test_behind_the_last_of_its_friends(self):
        book = book_of([("befriend", "ann", "di"), ("befriend", "bob", "di"),
                        ("come", "ann"), ("come", "bob"), ("come", "cy")])
        self.assert_same(book.come("di"), 2)
        self.assert_same(book.host("di"), "bob")

    def test_here(self):
        book = book_of([("befriend", "ann", "cy"), ("come", "ann"), ("come", "bob")])
        self.assert_changes_nothing(Here, {"who": "ann"}, book, ("come", "ann"))
        self.assert_changes_nothing(Here, {"who": "bob"}, book, ("come", "bob"))

    def test_serve(self):
        book = book_of([("befriend", "ann", "cy"), ("come", "ann"), ("come", "bob"), ("come", "cy")])
        for who in ("ann", "cy", "bob"):
            self.assert_same(book.serve(), who)
        self.assert_same(book.served(), ("ann", "cy", "bob"))
        self.assert_same(book.row(), ())
        self.assert_same(book.log()[-3:], [("serve",)] * 3)

    def test_bare(self):
        self.assert_changes_nothing(Bare, {}, Book(), ("serve",))
        book = book_of([("befriend", "ann", "cy"), ("come", "ann"), ("serve",)])
        self.assert_changes_nothing(Bare, {}, book, ("serve",))

    def test_who_was_served_comes_again(self):
        deeds = [("come", "ann"), ("serve",), ("come", "ann"), ("come", "bob"), ("serve",), ("come", "ann"),
                 ("serve",), ("serve",)]
        self.assert_book(book_of(deeds), deeds)
        self.assert_same(book_of(deeds).served(), ("ann", "ann", "bob", "ann"))
        # Let in by bob the second time, though the first one there the first time.
        deeds = [("befriend", "ann", "bob"), ("come", "ann"), ("come", "bob"), ("come", "cy"), ("serve",)]
        book = book_of(deeds)
        self.assert_same(book.come("ann"), 1)
        self.assert_same(book.host("ann"), "bob")
        self.assert_same(book.told_order(), ["bob", "cy", "ann"])

    def test_friends_made_or_parted_move_nobody(self):
        book = book_of([("come", "ann"), ("come", "bob"), ("come", "cy")])
        book.befriend("cy", "ann")
        self.assert_same(book.row(), ("ann", "bob", "cy"))
        self.assert_same((book.host("cy"), book.put_back("bob")), (None, 0))
        book = book_of([("befriend", "ann", "cy"), ("come", "ann"), ("come", "bob"), ("come", "cy")])
        book.part("ann", "cy")
        self.assert_same(book.row(), ("ann", "cy", "bob"))

    def test_each_deed_behind_the_other(self):
        for many in range(len(DEEDS) + 1):
            self.assert_book(book_of(DEEDS[:many]), DEEDS[:many])

    def test_people_called_as_deeds_are(self):
        deeds = [("befriend", "undo", "come"), ("come", "undo"), ("come", "serve"), ("come", "come"), ("serve",)]
        self.assert_book(book_of(deeds), deeds)


class Hosts(Checking):
    def test_behind_whom_it_came(self):
        book = book_of([("befriend", "ann", "di"), ("come", "ann"), ("come", "bob"), ("come", "di")])
        self.assert_told("ann", book.host, "di")
        self.assert_told(None, book.host, "ann")
        self.assert_told(None, book.host, "bob")

    def test_right_behind_it_at_the_end_too(self):
        book = book_of([("befriend", "ann", "bob"), ("come", "ann"), ("come", "bob"), ("come", "cy")])
        self.assert_told("ann", book.host, "bob")
        # The one ahead of cy isn't its friend.
        self.assert_told(None, book.host, "cy")

    def test_a_host_served_or_parted_since(self):
        book = book_of([("befriend", "ann", "di"), ("come", "ann"), ("come", "bob"), ("come", "di"), ("serve",)])
        self.assert_told("ann", book.host, "di")
        book.part("ann", "di")
        self.assert_told("ann", book.host, "di")
        book.befriend("bob", "di")
        self.assert_told("ann", book.host, "di")
        self.assert_told(None, book.host, "bob")

    def test_a_host_who_came_again(self):
        book = book_of([("befriend", "ann", "di"), ("come", "ann"), ("come", "bob"), ("come", "di"), ("serve",),
                        ("come", "ann")])
        self.assert_same(book.row(), ("di", "ann", "bob"))
        self.assert_told("ann", book.host, "di")
        self.assert_told("di", book.host, "ann")

    def test_host_of_who_came_again(self):
        book = book_of([("befriend", "ann", "bob"), ("come", "ann"), ("come", "bob"), ("serve",), ("serve",),
                        ("come", "bob")])
        self.assert_told(None, book.host, "bob")

    def test_gone(self):
        book = book_of([("befriend", "ann", "bob"), ("come", "ann"), ("come", "bob"), ("serve",)])
        for who in ("ann", "cy", "zed"):
            self.assert_changes_nothing(Gone, {"who": who}, book, ("host", who))
            self.assert_changes_nothing(Gone, {"who": who}, book, ("put_back", who))

    def test_how_many_were_let_in_ahead(self):
        book = book_of([("befriend", "ann", who) for who in ("cy", "di", "eve")]
                       + [("come", "ann"), ("come", "bob"), ("come", "cy"), ("come", "di"), ("come", "flo")])
        self.assert_same(book.row(), ("ann", "di", "cy", "bob", "flo"))
        for who, many in (("ann", 0), ("bob", 2), ("cy", 1), ("di", 0), ("flo", 0)):
            self.assert_told(many, book.put_back, who)
        book.come("eve")
        for who, many in (("ann", 0), ("bob", 3), ("cy", 2), ("di", 1), ("eve", 0), ("flo", 1)):
            self.assert_told(many, book.put_back, who)
        # Served since: they count all the same; and so where friends are parted.
        book.part("ann", "cy")
        for _ in range(3):
            book.serve()
        self.assert_same(book.row(), ("cy", "bob", "flo"))
        for who, many in (("bob", 3), ("cy", 2), ("flo", 1)):
            self.assert_told(many, book.put_back, who)

    def test_since_it_came_the_last_time(self):
        book = book_of([("befriend", "ann", "cy"), ("come", "ann"), ("come", "bob"), ("come", "cy"), ("serve",),
                        ("serve",)])
        self.assert_told(1, book.put_back, "bob")
        book.serve()
        book.come("bob")
        self.assert_told(0, book.put_back, "bob")

    def test_the_same_one_let_in_twice_counts_twice(self):
        book = book_of([("befriend", "ann", "cy"), ("befriend", "cy", "di"), ("come", "ann"), ("come", "bob"),
                        ("come", "cy"), ("come", "di"), ("serve",), ("serve",), ("come", "cy")])
        self.assert_same(book.row(), ("di", "cy", "bob"))
        self.assert_told(3, book.put_back, "bob")

    def test_arguments(self):
        for name, wanted in (
            ("befriend", "(one, other)"), ("part", "(one, other)"), ("come", "(who)"), ("serve", "()"), ("undo", "()"),
            ("row", "()"), ("friends", "()"), ("served", "()"), ("host", "(who)"), ("put_back", "(who)"),
            ("deeds", "()"), ("log", "()"), ("as_of", "(many)"), ("twin", "()"), ("order", "()"), ("told_order", "()"),
        ):
            self.assert_arguments(getattr(Book(), name), wanted)
            self.assertIn(name, vars(Book))
        for name in ("__init__", "__len__", "__eq__", "__repr__"):
            self.assertIn(name, vars(Book))
        self.assert_arguments(Book, "()")


class Undo(Checking):
    def test_nothing_to_undo(self):
        book = Book()
        self.assertIs(book.undo(), False)
        self.assertIs(book.undo(), False)
        self.assert_book(book, [])
        book = book_of([("come", "ann"), ("undo",)])
        self.assertIs(book.undo(), False)
        self.assert_book(book, [], [("come", "ann"), ("undo",)])

    def test_each_deed(self):
        for many in range(1, len(DEEDS) + 1):
            book = book_of(DEEDS[:many])
            self.assertIs(book.undo(), True)
            self.assert_book(book, DEEDS[:many - 1], DEEDS[:many] + [("undo",)])

    def test_deed_by_deed_to_the_bare_book(self):
        book = book_of(DEEDS)
        for many in range(len(DEEDS) - 1, -1, -1):
            self.assertIs(book.undo(), True)
            self.assert_book(book, DEEDS[:many], DEEDS + [("undo",)] * (len(DEEDS) - many))
        self.assertIs(book.undo(), False)
        self.assertEqual(book, Book())

    def test_gone_on_with(self):
        book = book_of(DEEDS)
        book.undo()
        book.undo()
        book.come("gus")
        deeds = DEEDS[:-2] + [("come", "gus")]
        self.assert_book(book, deeds, DEEDS + [("undo",), ("undo",), ("come", "gus")])
        book.undo()
        self.assert_book(book, DEEDS[:-2], DEEDS + [("undo",), ("undo",), ("come", "gus"), ("undo",)])

    def test_a_refused_deed_is_not_what_is_undone(self):
        book = book_of([("come", "ann"), ("come", "bob")])
        self.assertIsInstance(told_of(book, ("come", "ann")), Here)
        self.assertIsInstance(told_of(book, ("part", "ann", "bob")), Strange)
        book.undo()
        self.assert_book(book, [("come", "ann")], [("come", "ann"), ("come", "bob"), ("undo",)])

    def test_a_serve(self):
        deeds = [("befriend", "ann", "cy"), ("come", "ann"), ("come", "bob"), ("come", "cy")]
        book = book_of(deeds)
        book.serve()
        book.undo()
        self.assert_book(book, deeds, deeds + [("serve",), ("undo",)])
        self.assert_same(book.come("di"), 3)

    def test_who_was_let_in_is_no_more(self):
        book = book_of([("befriend", "ann", "cy"), ("come", "ann"), ("come", "bob"), ("come", "cy")])
        self.assert_told(1, book.put_back, "bob")
        book.undo()
        self.assert_told(0, book.put_back, "bob")
        self.assert_changes_nothing(Gone, {"who": "cy"}, book, ("host", "cy"))


class Copies(Checking):
    def test_as_of_each_number(self):
        book = book_of(DEEDS)
        for many in range(len(DEEDS) + 1):
            self.assert_book(book.as_of(many), DEEDS[:many])
            self.assert_book(book.as_of(many=many), DEEDS[:many])
            self.assertIs(type(book.as_of(many)), Book)
        self.assert_book(book, DEEDS)

    def test_as_of_with_undone_deeds(self):
        book = book_of(DEEDS)
        for _ in range(4):
            book.undo()
        book.befriend("ann", "zed")
        deeds = DEEDS[:-4] + [("befriend", "ann", "zed")]
        for many in range(len(deeds) + 1):
            self.assert_book(book.as_of(many), deeds[:many])
        self.assert_book(book.twin(), deeds)
        self.assert_refused(NoDeed, {"many": len(deeds) + 1}, book.as_of, len(deeds) + 1)

    def test_gone_on_with_beside_the_book(self):
        for many in range(len(DEEDS) + 1):
            book = book_of(DEEDS)
            copy = book.as_of(many)
            copy.come("yan")
            copy.befriend("yan", "zed")
            copy.come("zed")
            more = [("come", "yan"), ("befriend", "yan", "zed"), ("come", "zed")]
            self.assert_book(copy, DEEDS[:many] + more)
            self.assert_book(book, DEEDS)
            book.come("hal")
            book.serve()
            self.assert_book(book, DEEDS + [("come", "hal"), ("serve",)])
            self.assert_book(copy, DEEDS[:many] + more)

    def test_undone_there(self):
        book = book_of(DEEDS)
        copy = book.as_of(6)
        for many in range(5, -1, -1):
            self.assertIs(copy.undo(), True)
            self.assert_book(copy, DEEDS[:many], DEEDS[:6] + [("undo",)] * (6 - many))
        self.assertIs(copy.undo(), False)
        self.assert_book(book, DEEDS)
        book.undo()
        self.assert_book(copy, [], DEEDS[:6] + [("undo",)] * 6)

    def test_no_deed(self):
        book = book_of(DEEDS)
        for many in (-1, -2, -len(DEEDS), len(DEEDS) + 1, 1000, -10 ** 30, 10 ** 30):
            self.assert_changes_nothing(NoDeed, {"many": many}, book, ("as_of", many))
        self.assert_changes_nothing(NoDeed, {"many": 1}, Book(), ("as_of", 1))
        self.assert_changes_nothing(NoDeed, {"many": -1}, Book(), ("as_of", -1))
        self.assert_book(Book().as_of(0), [])

    def test_twin(self):
        book = book_of(DEEDS)
        book.undo()
        twin = book.twin()
        self.assertIs(type(twin), Book)
        self.assert_book(twin, DEEDS[:-1])
        self.assertEqual(twin, book)
        twin.serve()
        self.assert_book(book, DEEDS[:-1], DEEDS + [("undo",)])
        self.assert_book(twin, DEEDS[:-1] + [("serve",)])
        book.undo()
        self.assert_book(twin, DEEDS[:-1] + [("serve",)])
        self.assert_book(Book().twin(), [])

    def test_books_of_their_own(self):
        one, other = Book(), Book()
        one.come("ann")
        one.befriend("ann", "bob")
        self.assert_book(other, [])

    def test_told_lists_changed_by_the_asker(self):
        book = book_of(DEEDS)
        before = snapshot(book)
        for ask in (book.log, book.told_order, book.order):
            spoil(ask())
            self.assertEqual(snapshot(book), before)
        spoil(book.as_of(5).log())
        spoil(book.twin().told_order())
        self.assertEqual(snapshot(book), before)
        copy = book.twin()
        spoil(copy.log())
        self.assert_book(copy, DEEDS)


class Alike(Checking):
    def assert_alike(self, wanted, one, other):
        self.assertIs(one == other, wanted)
        self.assertIs(other == one, wanted)
        self.assertIs(one != other, not wanted)
        self.assertIs(other != one, not wanted)

    def test_by_rows_and_friends_alone(self):
        self.assert_alike(True, Book(), Book())
        one = book_of([("befriend", "ann", "bob"), ("come", "cy"), ("come", "ann")])
        self.assert_alike(True, one, one)
        # Otherwise made, otherwise served, otherwise logged.
        self.assert_alike(True, one, book_of([("come", "cy"), ("come", "ann"), ("befriend", "bob", "ann")]))
        self.assert_alike(True, one, book_of([("befriend", "ann", "bob"), ("come", "bob"), ("come", "cy"),
                                              ("come", "di"), ("serve",), ("undo",), ("serve",), ("undo",), ("undo",),
                                              ("undo",), ("undo",), ("come", "cy"), ("come", "ann")]))
        self.assert_alike(True, one, book_of([("come", "zed"), ("serve",), ("befriend", "ann", "bob"),
                                              ("come", "cy"), ("come", "ann")]))
        # The same row, come otherwise, and with other hosts.
        friends = [("befriend", "ann", "cy"), ("befriend", "bob", "cy")]
        came = book_of(friends + [("come", "ann"), ("come", "bob"), ("come", "cy")])
        other = book_of([("come", "ann"), ("come", "bob"), ("come", "cy")] + friends)
        self.assertNotEqual(came.host("cy"), other.host("cy"))
        self.assert_alike(True, came, other)

    def test_other_rows_or_friends(self):
        one = book_of([("befriend", "ann", "bob"), ("come", "cy"), ("come", "ann")])
        self.assert_alike(False, one, Book())
        self.assert_alike(False, one, book_of([("befriend", "ann", "bob"), ("come", "ann"), ("come", "cy")]))
        self.assert_alike(False, one, book_of([("befriend", "ann", "bob"), ("come", "cy")]))
        self.assert_alike(False, one, book_of([("come", "cy"), ("come", "ann")]))
        self.assert_alike(False, one, book_of([("befriend", "ann", "cy"), ("come", "cy"), ("come", "ann")]))
        self.assert_alike(False, Book(), book_of([("befriend", "ann", "cy")]))

    def test_to_nothing_else(self):
        book = book_of([("come", "ann")])
        for thing in (None, True, 1, 0, "Book(1)", "ann", ("ann",), ["ann"], (("ann",), ()), {}, Book, object()):
            self.assert_alike(False, book, thing)
        for thing in (None, False, 0, "", (), [], ((), ())):
            self.assert_alike(False, Book(), thing)

    def test_len_and_repr(self):
        book = Book()
        for many, who in enumerate(NAMES):
            self.assert_same(len(book), many)
            self.assert_same(repr(book), f"Book({many})")
            book.come(who)
        book.befriend("ann", "bob")
        self.assert_same((len(book), repr(book)), (6, "Book(6)"))
        book.serve()
        self.assert_same((len(book), repr(book)), (5, "Book(5)"))
        book.undo()
        self.assert_same((len(book), repr(book)), (6, "Book(6)"))


class Orders(Checking):
    def test_order_by_the_friends_as_they_are_now(self):
        deeds = [("befriend", "ann", "cy"), ("come", "ann"), ("come", "bob"), ("come", "cy")]
        book = book_of(deeds)
        self.assert_told(("order", ["ann", "cy", "bob"]), book.order)
        self.assert_told(["ann", "bob", "cy"], book.told_order)
        book.part("ann", "cy")
        self.assert_told(("order", ["ann", "cy", "bob"]), book.order)
        book.befriend("ann", "bob")
        # bob can't have come behind cy, nor cy behind bob, now.
        word, ring = book.order()
        self.assertEqual(word, "ring")
        self.assert_told(order_of((("ann", "bob"),), ("ann", "cy", "bob")), book.order)
        self.assert_told(["ann", "bob", "cy"], book.told_order)

    def test_told_order_is_one_of_the_rows_where_friends_stayed_and_none_was_served(self):
        for seed in range(20):
            friends, people = by_chance(seed, 7, 0.3)
            book = book_of([("befriend", *pair) for pair in friends] + [("come", who) for who in people])
            self.assert_told(people, book.told_order)
            self.assertIn(book.told_order(), plain_orders(friends, book.row()))
            self.assertEqual(book.order()[0], "order")

    def test_told_order_of_those_in_the_row_alone(self):
        book = book_of([("befriend", "ann", "cy"), ("come", "ann"), ("come", "bob"), ("come", "cy"), ("come", "di"),
                        ("serve",), ("come", "ann"), ("serve",)])
        self.assert_same(book.served(), ("ann", "cy"))
        self.assert_same(book.row(), ("ann", "bob", "di"))
        self.assert_told(["bob", "di", "ann"], book.told_order)
        book.serve()
        book.come("ann")
        self.assert_told(["bob", "di", "ann"], book.told_order)

    def test_history_of_all_served_since_the_row_was_bare(self):
        for seed in range(10):
            friends, people = by_chance(seed, 12, 0.25)
            dice = random.Random(seed)
            deeds = [("befriend", *pair) for pair in friends]
            book = book_of(deeds)
            for who in people:
                book.come(who)
                if len(book) > 1 and dice.random() < 0.4:
                    book.serve()
            self.assertEqual(history_of(book.friends(), book.served(), book.row())[0], "deeds")


def drawn(seed, many, people, words):
    """A book behind so many drawn deeds; told are its log, and the deeds that stand."""
    dice = random.Random(seed)
    book, stood, log = Book(), [], []
    for _ in range(many):
        word = dice.choice(words)
        if word in ("befriend", "part"):
            deed = (word, *dice.sample(people, 2))
        elif word == "come":
            deed = (word, dice.choice(people))
        else:
            deed = (word,)
        told = told_of(book, deed)
        if word == "undo":
            assert told is bool(stood)
            if stood:
                stood.pop()
                log.append(deed)
        elif not isinstance(told, Exception):
            stood.append(deed)
            log.append(deed)
    return book, stood, log


def refusal_due(plain, deed):
    """The class by which a deed is to be refused, None where it isn't."""
    word, *handed_in = deed
    if word == "befriend" and befriended(plain.pairs, *handed_in):
        return Known
    if word == "part" and not befriended(plain.pairs, *handed_in):
        return Strange
    if word == "come" and handed_in[0] in plain.row:
        return Here
    return Bare if word == "serve" and not plain.row else None


class Drawn(Checking):
    WORDS = ["befriend"] * 3 + ["part"] + ["come"] * 5 + ["serve"] * 2 + ["undo"] * 2

    def test_a_book_made_anew_tells_the_same(self):
        for seed in range(40):
            book, stood, log = drawn(seed, 60, NAMES, self.WORDS)
            self.assert_book(book, stood, log)
            anew = book_of(stood)
            self.assertEqual(anew, book)
            self.assertEqual([part for at, part in enumerate(snapshot(anew)) if at != 4],
                             [part for at, part in enumerate(snapshot(book)) if at != 4])
            self.assertEqual(anew.log(), stood)
            for many in range(0, len(stood) + 1, 5):
                self.assert_book(book.as_of(many), stood[:many])

    def test_then_each_deed(self):
        seen = set()
        for seed in range(30):
            book, stood, log = drawn(seed + 100, 30, NAMES[:4], self.WORDS)
            plain = PlainBook(stood)
            deeds = [("serve",)] + [("come", who) for who in NAMES[:5]]
            for one, other in itertools.permutations(NAMES[:4], 2):
                deeds += [("befriend", one, other), ("part", one, other)]
            for deed in deeds:
                due = refusal_due(plain, deed)
                seen.add(due)
                copy = book.twin()
                told = told_of(copy, deed)
                if due:
                    self.assertIs(type(told), due)
                    self.assertEqual(snapshot(copy), snapshot(book.twin()))
                else:
                    after = PlainBook(stood + [deed])
                    wanted = {"come": lambda: after.row.index(deed[1]), "serve": lambda: after.served[-1]}
                    self.assert_same(told, wanted.get(deed[0], lambda: None)())
                    self.assertEqual(copy.log(), stood + [deed])
        self.assertEqual(seen, {None, Known, Strange, Here, Bare})

    def test_as_many_as_may_be(self):
        people = ["q" + letter for letter in LETTERS[:24]]
        dice = random.Random(61)
        for _ in range(3):
            dice.shuffle(people)
            pairs = dice.sample(list(itertools.combinations(people, 2)), 40)
            deeds = [("befriend", *dice.sample(pair, 2)) for pair in pairs] + [("come", who) for who in people]
            dice.shuffle(deeds)
            deeds += [("serve",)] * 8 + [("part", *pairs[0]), ("part", *pairs[1])]
            deeds += [("come", who) for who in book_of(deeds).served()[:6]]
            self.assertEqual(len(deeds), 80)
            book = book_of(deeds)
            self.assert_book(book, deeds)
            for many in (0, 40, 64, 72, 79, 80):
                self.assert_book(book.as_of(many), deeds[:many])
            for many in range(79, -1, -1):
                book.undo()
                self.assertEqual(book.row(), tuple(PlainBook(deeds[:many]).row))
            self.assert_book(book, [], deeds + [("undo",)] * 80)

    def test_twenty_four_in_the_row(self):
        people = ["q" + letter for letter in LETTERS[:24]]
        deeds = [("befriend", people[0], who) for who in people[1:]] + [("come", who) for who in people]
        book = book_of(deeds)
        self.assert_book(book, deeds)
        self.assert_same(book.row(), (people[0], *people[:0:-1]))
        self.assert_same(book.put_back(people[1]), 22)


if __name__ == "__main__":
    unittest.main()
