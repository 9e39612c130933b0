"""What the tests share: asking in every way that is promised, and plain judges of their own."""

import copy
import inspect
import itertools
import random
import unittest

NAMES = ("ann", "bob", "cy", "di", "eve", "flo")
NO_NAMES = (
    "", "abcdefghi", "A", "Ann", "anN", "a1", "7", "a b", " a", "a ", "a-b", "a_b", "-", "a\n", "\n",
    "`", "{", "@", "[", "\u00e9", "\u00df", "\u0430", "a\u0301", "\uff41",
    0, 1, -1, 97, True, False, None, (), [], ("a",), ["a"], ("a", "b"),
)


def nested(kind, core, deep):
    for _ in range(deep):
        core = kind([core])
    return core


OTHER_THINGS = (
    None, True, False, 0, 1, -5, 10 ** 30, "", "a", "ab", "ann bob", "()",
    nested(tuple, "a", 10), nested(list, "a", 10), nested(tuple, (), 9), nested(list, (), 9),
    nested(tuple, ("a", "b"), 9), nested(list, ("a", "b"), 9), nested(tuple, None, 10),
)


def as_tuples(thing):
    """The thing with each list in it made a tuple."""
    if isinstance(thing, (list, tuple)):
        return tuple(as_tuples(part) for part in thing)
    return thing


def as_lists(thing):
    """The thing with each tuple in it made a list."""
    if isinstance(thing, (list, tuple)):
        return [as_lists(part) for part in thing]
    return thing


def same(one, other):
    """Equal, and of the same kinds throughout: True isn't 1, a list isn't a tuple."""
    if type(one) is not type(other):
        return False
    if isinstance(one, (list, tuple)):
        return len(one) == len(other) and all(map(same, one, other))
    return one == other


def lists_in(thing):
    """All lists in a thing, itself too."""
    found = [thing] if isinstance(thing, list) else []
    if isinstance(thing, (list, tuple)):
        for part in thing:
            found.extend(lists_in(part))
    return found


def spoil(thing):
    """Changes each list in a told thing, as its owner may."""
    for told in lists_in(thing):
        told.reverse()
        told.append("spoilt")


class Asking(unittest.TestCase):
    """Tests that ask a function in each way in which it may be asked."""

    def assert_same(self, told, wanted):
        self.assertTrue(same(told, wanted), f"told {told!r}, wanted {wanted!r}")

    def ask(self, function, places, names):
        """What is told, having seen that nothing handed in was changed or handed back."""
        before = copy.deepcopy((places, names))
        try:
            told = function(*places, **names)
        finally:
            self.assert_same(list(places), list(before[0]))
            for name in names:
                self.assert_same(names[name], before[1][name])
        handed_in = {id(part) for part in lists_in([places, list(names.values())])}
        own = [id(part) for part in lists_in(told)]
        self.assertEqual(len(own), len(set(own)))
        self.assertFalse(handed_in & set(own))
        return told

    def ways(self, function, places, names):
        """Arguments as they are, as tuples and as lists; by their places and by their names."""
        by_place = list(inspect.signature(function).parameters)[:len(places)]
        for turn in (lambda thing: thing, as_tuples, as_lists):
            some = [turn(value) for value in places]
            more = {name: turn(value) for name, value in names.items()}
            yield some, more
            yield [], {**dict(zip(by_place, some)), **more}

    def assert_told(self, wanted, function, *places, **names):
        """That this is told in each way of asking, and again when what was told was changed."""
        for some, more in self.ways(function, places, names):
            told = self.ask(function, some, more)
            self.assert_same(told, wanted)
            spoil(told)
            self.assert_same(self.ask(function, some, more), wanted)

    def assert_judged(self, wanted, function, *places, **names):
        """That this truth is told of the thing, the last one by place, which alone is handed in just as it is."""
        *places, thing = places
        for some, more in self.ways(function, places, names):
            asks = [(some, {**more, "thing": thing})]
            if some:
                asks.append(([*some, thing], more))
            for handed_in, named in asks:
                told = self.ask(function, handed_in, named)
                self.assertIs(told, wanted, f"{function.__name__} of {thing!r}")

    def assert_refused(self, error, fields, function, *places, **names):
        """That each way of asking is refused by that class with those fields."""
        for some, more in self.ways(function, places, names):
            with self.assertRaises(error) as caught:
                self.ask(function, some, more)
            self.assertIs(type(caught.exception), error)
            for field, value in fields.items():
                self.assert_same(getattr(caught.exception, field), value)

    def assert_arguments(self, function, wanted):
        """That the arguments are written so, such as `(friends, row, *, but=())`."""
        self.assertEqual(str(inspect.signature(function)), wanted)


def all_friends(names):
    """Each FRIENDS that there can be among these."""
    pairs = list(itertools.combinations(sorted(names), 2))
    for many in range(len(pairs) + 1):
        yield from itertools.combinations(pairs, many)


def by_chance(seed, people, chance, strangers=0):
    """FRIENDS and a list of people, the same for the same seed; strangers aren't in the list."""
    dice = random.Random(seed)
    letters = "abcdefghijklmnopqrstuvwxyz"
    names = ["p" + one + other for one in letters[:6] for other in letters[:6]]
    dice.shuffle(names)
    everybody = sorted(names[:people + strangers])
    pairs = itertools.combinations(everybody, 2)
    friends = tuple(pair for pair in pairs if dice.random() < chance)[:300]
    return friends, names[:people]


def tampered(dice, thing):
    """The thing with one place in it changed, as chance has it: something else there, or of another kind."""
    parts = list(thing)
    at = dice.randrange(len(parts)) if parts else 0
    way = dice.randrange(7)
    if way == 0 or not parts:
        return tuple(parts) if isinstance(thing, list) else parts
    if way == 1:
        del parts[at]
    elif way == 2:
        parts.insert(dice.randrange(len(parts) + 1), parts[at])
    elif way == 3:
        other = dice.randrange(len(parts))
        parts[at], parts[other] = parts[other], parts[at]
    elif isinstance(parts[at], (list, tuple)) and way < 6:
        parts[at] = tampered(dice, parts[at])
    else:
        parts[at] = dice.choice((None, True, 0, 1, -1, "", "ann", "zed", [], (), "friend", "between", "behind"))
    return parts if isinstance(thing, list) else tuple(parts)


def befriended(friends, one, other):
    return (min(one, other), max(one, other)) in [tuple(pair) for pair in friends]


def plain_come(friends, row, who):
    """The row, a list, when who has come, walked from its end as a person would."""
    for place in range(len(row), 0, -1):
        if befriended(friends, row[place - 1], who):
            return row[:place] + [who] + row[place:]
    return row + [who]


def plain_row(friends, order):
    row = []
    for who in order:
        row = plain_come(friends, row, who)
    return tuple(row)


def plain_loose(friends, row):
    """Those of a row who can have come last: without them, coming, they come to stand so."""
    found = []
    for who in row:
        others = [other for other in row if other != who]
        if plain_come(friends, others, who) == list(row):
            found.append(who)
    return found


def plain_orders(friends, row):
    """All orders of a row, rising, each seen by itself."""
    row = tuple(row)
    return [list(order) for order in itertools.permutations(sorted(row)) if plain_row(friends, order) == row]


def rows_with_orders():
    """FRIENDS, a row, and all its orders: each that has some of at most four people, and some of five and six."""
    for many in range(5):
        for friends in all_friends(NAMES[:many]):
            rows = {}
            for order in itertools.permutations(NAMES[:many]):
                rows.setdefault(plain_row(friends, order), []).append(list(order))
            for row, orders in rows.items():
                yield friends, row, orders
    for many, step in ((5, 3), (6, 300)):
        row = NAMES[:many]
        for friends in itertools.islice(all_friends(row), 0, None, step):
            orders = plain_orders(friends, row)
            if orders:
                yield friends, row, orders


def rows_and_friends():
    """Each row of at most three people, and one row of four, with each FRIENDS among them."""
    for many in range(4):
        for friends in all_friends(NAMES[:many]):
            for row in itertools.permutations(NAMES[:many]):
                yield friends, row
    # A row of four people needs no other turns: the names are no matter.
    for friends in all_friends(NAMES[:4]):
        yield friends, NAMES[:4]
