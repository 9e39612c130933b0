"""[15] rows seen one behind another, and [1] (a) of them, with [2] and [3] of them."""

import functools
import itertools
import random
import unittest

from asking import NAMES, Asking, all_friends, by_chance, plain_come
from letinrow.errors import BadSight
from letinrow.histories import never_in
from letinrow.sights import seen_after
from test_histories import SERVE, come, plain_done, plain_paper

FRIENDS = (("ann", "di"), ("ann", "eve"), ("bob", "cy"))
# ann, bob and di came; ann was served, and cy came; eve came, and di and bob were served.
SERVED = ("ann", "di", "bob", "cy")
SIGHTS = [(0, ("ann", "di", "bob")), (1, ("di", "bob", "cy")), (3, ("cy", "eve"))]


def plain_parts(served, sights):
    """For each sight those who were served since the one ahead, its row, and the row of the one ahead."""
    parts, before, elders = [], 0, ()
    for many, row in sights:
        parts.append((tuple(served[before:many]), tuple(row), tuple(elders)))
        before, elders = many, row
    return parts


def plain_bad(served, sights):
    """The number of the first sight that can't be, by each of the clauses of [15]."""
    before, elders = 0, ()
    for number, (many, row) in enumerate(sights):
        if many < before or many > len(served):
            return number
        line = served[before:many] + row
        if any(line.count(who) > 1 or who in served[:before] for who in line):
            return number
        if [who for who in line if who in elders] != list(elders):
            return number
        before, elders = many, row
    return None


@functools.lru_cache(maxsize=None)
def reached(friends, people, served, row):
    """All pairs (served, row) to which that row can come by any deeds, nobody coming twice."""
    found = {(served, row)}
    if row:
        found |= reached(friends, people, served + row[:1], row[1:])
    for who in people:
        if who not in served + row:
            found |= reached(friends, people, served, tuple(plain_come(friends, list(row), who)))
    return frozenset(found)


def lacks(friends, served, sights):
    """The numbers of the sights that have no history, of right sights of few people."""
    people = tuple(sorted(set(served).union(*(row for _, row in sights))))
    states = [((), ())] + [(served[:many], row) for many, row in sights]
    found = []
    for number, (before, after) in enumerate(zip(states, states[1:])):
        if after not in reached(friends, people, *before):
            found.append(number)
    return found


def rows_among(people):
    for many in range(len(people) + 1):
        yield from itertools.permutations(people, many)


def sights_of_few():
    """Served and sights, right ones and others: all of one and two sights of at most three people, some of three."""
    people = NAMES[:3]
    rows = list(rows_among(people))
    dice = random.Random(31)
    for served in rows:
        one = [(many, row) for many in range(len(served) + 1) for row in rows]
        pairs = list(itertools.product(one, repeat=2))
        some = [dice.choices(one, k=3) for _ in range(300)]
        for sights in [[sight] for sight in one] + [list(pair) for pair in pairs] + some:
            yield served, sights


def seen_by_chance(seed, many, chance, sights, more_served=0):
    """FRIENDS, served and sights of so many people, as chance had it."""
    friends, people = by_chance(seed, many, chance, strangers=2)
    dice = random.Random(seed + 70)
    deeds = [None] * many + [SERVE] * (many // 2)
    dice.shuffle(deeds)
    when = sorted(dice.choices(range(len(deeds) + 1), k=sights))
    served, row, seen = [], [], []
    for number in range(len(deeds) + 1):
        seen.extend([(len(served), tuple(row))] * when.count(number))
        if number < len(deeds) and deeds[number] is None:
            row = plain_come(friends, row, people.pop())
        elif number < len(deeds) and row:
            served.append(row.pop(0))
    served.extend(row[:more_served])
    return friends, tuple(served), seen


def right_sights(dice, people, many):
    """Served and so many right sights: whoever is new stands wherever chance has it."""
    coming, served, row, sights = list(people), [], [], []
    for _ in range(many):
        for _ in range(dice.randrange(len(coming) // 2 + 2)):
            if coming:
                row.insert(dice.randrange(len(row) + 1), coming.pop())
        gone = dice.randrange(len(row) + 1) if dice.random() < 0.5 else 0
        served, row = served + row[:gone], row[gone:]
        sights.append((len(served), tuple(row)))
    return tuple(served), sights


class SeenAfter(Asking):
    def assert_histories(self, friends, served, sights, told):
        """That a history is told for each sight, and that one behind the other they are one of the whole."""
        self.assertIs(type(told), tuple)
        word, histories = told
        self.assertEqual(word, "deeds")
        self.assertIs(type(histories), list)
        self.assertEqual(len(histories), len(sights))
        whole = []
        for (between, row, elders), history in zip(plain_parts(served, sights), histories):
            self.assertIs(type(history), list)
            self.assertTrue(all(type(deed) is tuple for deed in history))
            self.assertEqual(plain_done(friends, history, elders), (list(between), list(row)))
            whole.extend(history)
        many, row = sights[-1]
        self.assertEqual(plain_done(friends, whole, ()), (list(served[:many]), list(row)))

    def assert_none(self, friends, served, sights, number, told):
        """That a paper is told for the sight of that number."""
        self.assertIs(type(told), tuple)
        word, pair = told
        self.assertEqual(word, "none")
        self.assertIs(type(pair), tuple)
        self.assertEqual(len(pair), 2)
        self.assert_same(pair[0], number)
        between, row, elders = plain_parts(served, sights)[number]
        self.assertTrue(plain_paper(friends, between, row, elders, pair[1]), pair)
        self.assertEqual(tuple(part[0] for part in pair[1]), never_in(friends, between, row, elders=elders))

    def assert_seen(self, number, friends, served, sights):
        """In each way of asking: histories where number is None, else a paper for the sight of that number."""
        told = seen_after(friends, served, sights)
        if number is None:
            self.assert_histories(friends, served, sights, told)
        else:
            self.assert_none(friends, served, sights, number, told)
        self.assert_told(seen_after(friends, served, sights), seen_after, friends, served, sights)

    def test_one_sight(self):
        self.assert_seen(None, FRIENDS, (), [(0, ("ann", "eve", "di", "bob", "cy"))])
        self.assert_seen(None, FRIENDS, ("bob",), [(1, ("ann", "cy"))])
        self.assert_seen(0, FRIENDS, (), [(0, ("bob", "ann", "cy"))])
        self.assert_told(("deeds", [[come("bob"), SERVE, come("ann")]]), seen_after, (), ("bob",), [(1, ("ann",))])
        # Of these papers there's no other one.
        wanted = ("none", (1, [("bob", "behind", ("cy",))]))
        self.assert_told(wanted, seen_after, (), (), [(0, ("ann", "cy")), (0, ("ann", "bob", "cy"))])

    def test_several_sights(self):
        self.assert_seen(None, FRIENDS, SERVED, SIGHTS)
        self.assert_seen(None, FRIENDS, SERVED, SIGHTS[:2])
        self.assert_seen(None, FRIENDS, SERVED, SIGHTS[::2])

    def test_the_row_ahead_is_where_each_goes_from(self):
        # By itself ann, bob, cy can have come so; cy can't when ann and bob stood there, she at the end, at first.
        friends = (("ann", "bob"), ("bob", "cy"))
        self.assert_seen(None, friends, (), [(0, ("ann", "bob", "cy"))])
        self.assert_seen(None, (), (), [(0, ("ann", "bob")), (0, ("ann", "bob", "cy"))])
        self.assert_seen(1, (), (), [(0, ("ann", "cy")), (0, ("ann", "bob", "cy"))])
        self.assert_seen(None, (("ann", "bob"),), (), [(0, ("ann", "cy")), (0, ("ann", "bob", "cy"))])
        # bob was let in by ann while she was there: not where she was served ahead of the first sight.
        self.assert_seen(None, (("ann", "bob"),), ("ann",), [(0, ("ann", "cy")), (1, ("bob", "cy"))])
        self.assert_seen(1, (("ann", "bob"),), ("ann",), [(1, ("cy",)), (1, ("bob", "cy"))])

    def test_the_same_moment_twice(self):
        self.assert_seen(None, FRIENDS, SERVED, [SIGHTS[0]] * 2 + [SIGHTS[1]] * 3 + [SIGHTS[2]] * 2)
        told = seen_after(FRIENDS, SERVED, [SIGHTS[1]] * 3)
        self.assertEqual(told[1][1:], [[], []])
        # As many served, more people.
        self.assert_seen(None, FRIENDS, (), [(0, ("ann",)), (0, ("ann", "bob")), (0, ("ann", "di", "bob"))])
        self.assert_seen(2, FRIENDS, (), [(0, ("ann",)), (0, ("ann", "bob")), (0, ("ann", "bob", "di"))])

    def test_the_bare_row(self):
        self.assert_told(("deeds", [[]]), seen_after, FRIENDS, (), [(0, ())])
        self.assert_told(("deeds", [[], [], []]), seen_after, FRIENDS, ("ann",), [(0, ())] * 3)
        self.assert_seen(None, FRIENDS, ("ann", "bob"), [(0, ()), (0, ("ann",)), (2, ()), (2, ("di", "cy"))])
        self.assert_told(("deeds", [[come("ann"), SERVE], []]), seen_after, (), ("ann",), [(1, ()), (1, ())])

    def test_nobody_served(self):
        self.assert_seen(None, FRIENDS, (), [(0, ("ann",)), (0, ("ann", "bob")), (0, ("ann", "eve", "di", "bob"))])

    def test_nobody_served_between(self):
        self.assert_seen(None, FRIENDS, ("gus",), [(1, ("ann",)), (1, ("ann", "bob")), (1, ("ann", "di", "bob"))])
        self.assert_seen(2, FRIENDS, ("gus",), [(1, ("ann",)), (1, ("ann", "bob")), (1, ("ann", "bob", "di"))])

    def test_more_served_behind_the_last_sight(self):
        for more in ((), ("cy",), ("cy", "eve"), ("zed", "yan"), ("cy", "eve", "ann", "ann")):
            served = SERVED[:3] + more
            self.assert_seen(None, FRIENDS, served, SIGHTS)
            self.assert_same(seen_after(FRIENDS, served, SIGHTS), seen_after(FRIENDS, SERVED, SIGHTS))
        # Who is served behind a sight is no matter to it.
        self.assert_seen(None, FRIENDS, ("ann", "bob"), [(0, ("bob", "ann"))])

    def test_the_first_of_several_that_have_none(self):
        friends = (("ann", "cy"), ("di", "flo"))
        sights = [(0, ("ann", "bob", "cy")), (0, ("ann", "bob", "cy", "di", "eve", "flo"))]
        self.assert_seen(0, friends, (), sights)
        self.assert_seen(1, friends, (), [(0, ("ann", "bob"))] + sights)
        self.assert_seen(2, friends, (), [(0, ("ann",)), (0, ("ann", "bob"))] + sights)
        self.assert_seen(1, friends, (), [(0, ("ann",)), sights[1]])
        # The row of a sight that has none may be gone on from: then a later one has none first.
        self.assert_seen(0, friends, (), [sights[0], (0, sights[0][1] + ("di",))])

    def test_at_most_three_people_against_all_that_can_be_done(self):
        seen = {}
        for friends in all_friends(NAMES[:3]):
            for served, sights in sights_of_few():
                if plain_bad(served, sights) is not None:
                    continue
                numbers = lacks(friends, served, sights)
                told = seen_after(friends, served, sights)
                seen[len(sights), numbers[0] if numbers else None] = True
                if numbers:
                    self.assert_none(friends, served, sights, numbers[0], told)
                else:
                    self.assert_histories(friends, served, sights, told)
        self.assertEqual(set(seen), {(1, None), (1, 0), (2, None), (2, 0), (2, 1), (3, None), (3, 0), (3, 1), (3, 2)})

    def test_four_and_five_people_against_all_that_can_be_done(self):
        dice = random.Random(32)
        seen = {}
        for _ in range(1500):
            people = sorted(dice.sample(NAMES[:5], 4 if dice.random() < 0.9 else 5))
            friends = tuple(pair for pair in itertools.combinations(sorted(people), 2) if dice.random() < 0.5)
            dice.shuffle(people)
            served, sights = right_sights(dice, people, dice.randrange(1, 5))
            self.assertIs(plain_bad(served, sights), None)
            numbers = lacks(friends, served, sights)
            told = seen_after(friends, served, sights)
            if numbers:
                self.assert_none(friends, served, sights, numbers[0], told)
            else:
                self.assert_histories(friends, served, sights, told)
            first = numbers[0] if numbers else None
            seen[first] = seen.get(first, 0) + 1
        self.assertGreater(min(seen[first] for first in (None, 0, 1, 2)), 30, seen)

    def test_as_many_as_may_be(self):
        for seed, chance in itertools.product(range(4), (0, 0.05, 0.15, 0.4, 1)):
            friends, served, sights = seen_by_chance(seed, 24, chance, 8, more_served=2)
            self.assertEqual(len(sights), 8)
            self.assert_histories(friends, served, sights, seen_after(friends, served, sights))

    def test_as_many_as_may_be_that_have_none(self):
        numbers = set()
        for seed in range(40):
            dice = random.Random(seed)
            friends, people = by_chance(seed, 24, 0.1 + dice.random() * 0.3)
            served, sights = right_sights(dice, people, 8)
            word, thing = seen_after(friends, served, sights)
            if word == "none":
                numbers.add(thing[0])
                self.assert_none(friends, served, sights, thing[0], (word, thing))
                # Those ahead of it have one each.
                if thing[0] > 0:
                    self.assert_histories(friends, served, sights[:thing[0]],
                                          seen_after(friends, served, sights[:thing[0]]))
        self.assertGreater(len(numbers), 1)

    def test_as_many_as_may_be_in_each_way_of_asking(self):
        friends, served, sights = seen_by_chance(1, 24, 0.15, 8)
        self.assert_seen(None, friends, served, sights)
        people = tuple("q" + letter for letter in "abcdefghijklmnopqrstuvwxyz"[:24])
        sights = [(0, people[:3 * at]) for at in range(1, 9)]
        self.assert_seen(None, (), (), sights)
        self.assert_seen(7, (("qv", "qx"),), (), sights)

    def test_arguments(self):
        self.assert_arguments(seen_after, "(friends, served, sights)")


class BadSights(Asking):
    def assert_bad(self, number, friends, served, sights):
        self.assertEqual(plain_bad(tuple(served), sights), number)
        self.assert_refused(BadSight, {"number": number}, seen_after, friends, served, sights)

    def test_less_than_the_one_ahead(self):
        self.assert_bad(1, (), ("ann", "bob"), [(1, ()), (0, ())])
        self.assert_bad(2, (), ("ann", "bob"), [(1, ()), (2, ()), (1, ())])
        self.assert_bad(2, FRIENDS, SERVED, SIGHTS[:2] + [(0, ("di", "bob", "cy"))])

    def test_below_0(self):
        self.assert_bad(0, (), ("ann", "bob"), [(-1, ())])
        self.assert_bad(0, (), ("ann", "bob"), [(-1, ("bob",))])
        self.assert_bad(0, (), (), [(-1, ())])
        self.assert_bad(1, (), ("ann", "bob"), [(0, ()), (-2, ())])

    def test_more_than_served(self):
        self.assert_bad(0, (), (), [(1, ())])
        self.assert_bad(0, (), ("ann",), [(2, ("bob",))])
        self.assert_bad(1, (), ("ann",), [(1, ("bob",)), (2, ())])
        self.assert_bad(2, FRIENDS, SERVED[:2], SIGHTS)

    def test_twice_in_the_line(self):
        self.assert_bad(0, (), ("ann",), [(1, ("ann",))])
        self.assert_bad(0, (), ("ann",), [(1, ("bob", "ann"))])
        self.assert_bad(0, (), ("ann", "ann"), [(2, ())])
        self.assert_bad(0, (), (), [(0, ("ann", "ann"))])
        self.assert_bad(1, (), ("ann",), [(0, ("ann", "bob")), (1, ("bob", "ann"))])
        self.assert_bad(1, (), ("ann", "bob"), [(1, ("bob", "cy")), (2, ("cy", "bob"))])

    def test_served_ahead_of_the_sight_ahead(self):
        self.assert_bad(1, (), ("ann",), [(1, ("bob",)), (1, ("bob", "ann"))])
        self.assert_bad(2, (), ("ann", "bob"), [(1, ("bob",)), (2, ()), (2, ("ann",))])
        self.assert_bad(2, (), ("ann", "bob", "cy"), [(1, ("bob",)), (2, ()), (3, ("ann",))])
        # Served twice: so is she where both are behind the same sight, and where they aren't.
        self.assert_bad(1, (), ("ann", "ann"), [(1, ()), (2, ())])
        self.assert_bad(2, (), ("ann", "bob", "ann"), [(1, ()), (2, ()), (3, ())])

    def test_elders_left_out(self):
        self.assert_bad(1, (), (), [(0, ("ann",)), (0, ())])
        self.assert_bad(1, (), (), [(0, ("ann", "bob")), (0, ("bob",))])
        self.assert_bad(1, (), ("cy",), [(0, ("ann", "bob")), (1, ("ann",))])
        self.assert_bad(2, FRIENDS, SERVED, SIGHTS[:2] + [(3, ("eve",))])

    def test_elders_exchanged(self):
        self.assert_bad(1, (), (), [(0, ("ann", "bob")), (0, ("bob", "ann"))])
        self.assert_bad(1, (), ("bob",), [(0, ("ann", "bob")), (1, ("ann",))])
        self.assert_bad(1, (), ("bob", "ann"), [(0, ("ann", "bob")), (2, ())])
        self.assert_bad(2, (), ("zed",), [(0, ("zed", "ann", "cy")), (1, ("ann", "bob", "cy")), (1, ("ann", "cy", "bob"))])

    def test_the_first_of_several(self):
        self.assert_bad(0, (), (), [(1, ()), (2, ()), (-1, ())])
        self.assert_bad(1, (), ("ann",), [(0, ("ann",)), (0, ()), (7, ()), (0, ("bob", "bob"))])
        self.assert_bad(1, (), ("ann",), [(1, ()), (0, ()), (2, ()), (1, ("ann",))])
        self.assert_bad(2, (), ("ann",), [(0, ()), (1, ()), (1, ("ann",)), (0, ())])

    def test_ahead_of_all(self):
        # The first sight has none; that isn't told where a later one can't be.
        friends, row = (("ann", "cy"),), ("ann", "bob", "cy")
        self.assert_bad(1, friends, (), [(0, row), (1, row)])
        self.assert_bad(2, friends, (), [(0, row), (0, row), (0, row[::-1])])
        self.assertEqual(seen_after(friends, (), [(0, row), (0, row)])[0], "none")

    def test_right_sights_are_not_refused(self):
        for served, sights in (
            ((), [(0, ())]), (("ann",), [(0, ("ann",)), (1, ())]), (("ann", "bob"), [(0, ("bob",))]),
            (("ann", "bob"), [(0, ("ann", "bob")), (2, ()), (2, ("cy",))]), (SERVED, SIGHTS),
            (("ann", "ann"), [(1, ())]), (("ann", "bob", "bob"), [(0, ("bob",))]),
        ):
            self.assertEqual(seen_after(FRIENDS, served, sights)[0], "deeds", sights)

    def test_each_of_few_people(self):
        seen = {}
        for served, sights in sights_of_few():
            wanted = plain_bad(served, sights)
            try:
                seen_after((), served, sights)
                told = None
            except BadSight as error:
                told = error.number
            self.assertEqual(told, wanted, (served, sights))
            seen[len(sights), wanted] = True
        self.assertEqual(set(seen), {(1, None), (1, 0), (2, None), (2, 0), (2, 1), (3, None), (3, 0), (3, 1), (3, 2)})

    def test_a_value_error(self):
        self.assertEqual(BadSight.__bases__, (ValueError,))


if __name__ == "__main__":
    unittest.main()
