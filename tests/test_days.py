"""[16] days, what explains them, and what each coming tells, with [2] and [3] of them."""

import itertools
import random
import unittest

from asking import NAMES, Asking, all_friends, befriended, plain_come
from letinrow.days import explains, first_bad, told_pairs
from letinrow.errors import BadDay

FRIENDS = (("ann", "di"), ("ann", "eve"), ("bob", "cy"))
SERVE = ("serve",)


def come(who, place):
    return ("come", who, place)


# As it was by FRIENDS.
DAY = [come("ann", 0), come("bob", 1), come("di", 1), SERVE, come("cy", 2), come("eve", 3), SERVE]


def pair(one, other):
    return (min(one, other), max(one, other))


def plain_bad(days):
    """The first deed that can't be, by the words of [16]."""
    for day, deeds in enumerate(days):
        row, came = [], []
        for deed, (word, *more) in enumerate(deeds):
            if word == "serve":
                if not row:
                    return (day, deed)
                row.pop(0)
                continue
            who, place = more
            if who in came or place < 0 or place > len(row) or (row and place == 0):
                return (day, deed)
            came.append(who)
            row.insert(place, who)
    return None


def plain_explains(friends, days):
    """Whether each stands, when it has come as these friends have it, at the place that is told."""
    for deeds in days:
        row = []
        for word, *more in deeds:
            if word == "serve":
                row.pop(0)
            else:
                row = plain_come(friends, row, more[0])
                if row.index(more[0]) != more[1]:
                    return False
    return True


def comers(days):
    return sorted({deed[1] for day in days for deed in day if deed[0] == "come"})


def day_by(friends, orders):
    """The day on which these come, each NAME, or are served, each None, by those friends."""
    day, row = [], []
    for who in orders:
        if who is None:
            day.append(SERVE)
            row.pop(0)
        else:
            row = plain_come(friends, row, who)
            day.append(come(who, row.index(who)))
    return day


def right_day(dice, people, servings):
    """A day on which these come, in that order, to whatever place can be."""
    day, many = [], 0
    for who in people:
        while many and dice.random() < servings:
            day.append(SERVE)
            many -= 1
        day.append(come(who, dice.randint(1, many) if many else 0))
        many += 1
    return day


def right_days(seed, people, days, servings=0.2):
    """Right days of some of these people."""
    dice = random.Random(seed)
    told = []
    for _ in range(days):
        told.append(right_day(dice, dice.sample(people, dice.randint(0, len(people))), servings))
    return told


def friendly_days(seed, people, days, chance=0.4, servings=0.2):
    """FRIENDS and days that were by them."""
    dice = random.Random(seed)
    friends = tuple(two for two in itertools.combinations(sorted(people), 2) if dice.random() < chance)
    told = []
    for _ in range(days):
        orders, many = [], 0
        for who in dice.sample(people, dice.randint(0, len(people))):
            while many and dice.random() < servings:
                orders.append(None)
                many -= 1
            orders.append(who)
            many += 1
        told.append(day_by(friends, orders))
    return friends, told


def all_days_of_three():
    """Each right day on which three come, in one order, with each serving that can be ahead of the last coming."""
    def go(day, many, coming):
        if not coming:
            yield day
            return
        for place in range(1, many + 1) if many else [0]:
            yield from go(day + [come(coming[0], place)], many + 1, coming[1:])
        if many:
            yield from go(day + [SERVE], many - 1, coming)
    for people in itertools.permutations(NAMES[:3]):
        yield from go([], 0, people)


class FirstBad(Asking):
    def assert_bad(self, wanted, days):
        self.assertEqual(plain_bad(days), wanted)
        self.assert_told(wanted, first_bad, days)
        if wanted is not None:
            fields = {"day": wanted[0], "deed": wanted[1]}
            self.assert_refused(BadDay, fields, explains, FRIENDS, days)
            self.assert_refused(BadDay, fields, explains, (), days)
            self.assert_refused(BadDay, fields, told_pairs, days)

    def test_right_days(self):
        self.assert_bad(None, [])
        self.assert_bad(None, [[]])
        self.assert_bad(None, [[], [], []])
        self.assert_bad(None, [DAY])
        self.assert_bad(None, [DAY, [], DAY])
        self.assert_bad(None, [[come("ann", 0)], [come("ann", 0), SERVE], [come("bob", 0), come("ann", 1)]])
        self.assert_bad(None, [[come("ann", 0), SERVE, come("bob", 0), SERVE]])
        self.assert_bad(None, [[come("ann", 0), come("bob", 1), come("cy", 1), come("di", 3)]])

    def test_who_came_that_day(self):
        self.assert_bad((0, 1), [[come("ann", 0), come("ann", 1)]])
        self.assert_bad((0, 2), [[come("ann", 0), come("bob", 1), come("ann", 1)]])
        self.assert_bad((0, 2), [[come("ann", 0), SERVE, come("ann", 0)]])
        self.assert_bad((1, 2), [[come("bob", 0), come("ann", 1)], [come("ann", 0), SERVE, come("ann", 0)]])

    def test_a_place_below_0(self):
        self.assert_bad((0, 0), [[come("ann", -1)]])
        self.assert_bad((0, 1), [[come("ann", 0), come("bob", -1)]])
        self.assert_bad((0, 2), [[come("ann", 0), SERVE, come("bob", -1)]])

    def test_a_place_beyond_how_many_stand_there(self):
        self.assert_bad((0, 0), [[come("ann", 1)]])
        self.assert_bad((0, 1), [[come("ann", 0), come("bob", 2)]])
        self.assert_bad((0, 3), [[come("ann", 0), come("bob", 1), SERVE, come("cy", 2)]])
        self.assert_bad(None, [[come("ann", 0), come("bob", 1), SERVE, come("cy", 1)]])

    def test_0_where_any_stand(self):
        self.assert_bad((0, 1), [[come("ann", 0), come("bob", 0)]])
        self.assert_bad((0, 3), [[come("ann", 0), come("bob", 1), SERVE, come("cy", 0)]])
        self.assert_bad(None, [[come("ann", 0), come("bob", 1), SERVE, SERVE, come("cy", 0)]])

    def test_a_serve_of_a_bare_row(self):
        self.assert_bad((0, 0), [[SERVE]])
        self.assert_bad((1, 0), [[come("ann", 0)], [SERVE, come("bob", 0)]])
        self.assert_bad((0, 2), [[come("ann", 0), SERVE, SERVE]])
        self.assert_bad((0, 4), [[come("ann", 0), come("bob", 1), SERVE, SERVE, SERVE]])

    def test_the_first_of_several(self):
        self.assert_bad((0, 1), [[come("ann", 0), come("ann", 5), SERVE, SERVE, SERVE]])
        self.assert_bad((1, 0), [DAY, [come("ann", 1), come("bob", 7)], [SERVE]])
        self.assert_bad((2, 1), [DAY, [], [come("ann", 0), come("bob", 0)], [SERVE]])
        self.assert_bad((1, 3), [[], [come("ann", 0), come("bob", 1), SERVE, come("bob", 1), come("cy", 9)], [SERVE]])

    def test_people_called_as_deeds_are(self):
        self.assert_bad(None, [[come("serve", 0), come("come", 1), SERVE]])
        self.assert_bad((0, 2), [[come("serve", 0), come("come", 1), come("serve", 2)]])

    def test_few_deeds_each(self):
        deeds = [SERVE] + [come(who, place) for who in NAMES[:2] for place in range(-1, 3)]
        seen = set()
        for many in range(4):
            for day in itertools.product(deeds, repeat=many):
                wanted = plain_bad([list(day)])
                self.assertEqual(first_bad([list(day)]), wanted)
                self.assertEqual(first_bad([DAY, list(day)]), None if wanted is None else (1, wanted[1]))
                seen.add(wanted)
        self.assertEqual(seen, {None, (0, 0), (0, 1), (0, 2)})

    def test_as_many_as_may_be(self):
        people = ["p" + letter for letter in "abcdefghijklmnop"]
        day = [come(people[0], 0)] + [come(who, 1 + place // 2) for place, who in enumerate(people[1:])]
        day += [SERVE] * 14
        self.assertEqual(len(day), 30)
        self.assert_bad(None, [day] * 8)
        self.assert_bad((7, 29), [day] * 7 + [day[:29] + [come("pa", 1)]])
        self.assert_bad((7, 16), [day] * 7 + [day[:16] + [come("pz", 0)] + day[17:]])

    def test_arguments(self):
        self.assert_arguments(first_bad, "(days)")
        self.assertEqual(BadDay.__bases__, (ValueError,))


class Explains(Asking):
    def assert_explained(self, wanted, friends, days):
        self.assertIs(plain_explains(friends, days), wanted)
        self.assert_told(wanted, explains, friends, days)

    def test_no_days_and_bare_days(self):
        for friends in ((), FRIENDS):
            self.assert_explained(True, friends, [])
            self.assert_explained(True, friends, [[], []])
            self.assert_explained(True, friends, [[come("ann", 0), SERVE, come("di", 0)]])

    def test_as_it_was_by_those_friends(self):
        self.assert_explained(True, FRIENDS, [DAY])
        self.assert_explained(True, FRIENDS, [DAY, [], day_by(FRIENDS, ["eve", "ann", "cy", "di", "bob"])])
        self.assert_explained(False, (), [DAY])
        self.assert_explained(False, FRIENDS[1:], [DAY])
        # That ann and eve are friends, and bob and cy, is no matter that day.
        self.assert_explained(True, FRIENDS[:1], [DAY])
        self.assert_explained(False, FRIENDS + (("bob", "di"),), [DAY])

    def test_friends_who_never_come(self):
        self.assert_explained(True, FRIENDS + (("gus", "hal"),), [DAY])
        self.assert_explained(True, FRIENDS + (("cy", "gus"),), [DAY])

    def test_one_place_otherwise(self):
        day = day_by(FRIENDS, ["ann", "bob", "di", "cy", "eve"])
        self.assertEqual([deed[2] for deed in day], [0, 1, 1, 3, 1])
        for at, (word, who, place) in enumerate(day):
            for other in range(1, at + 1):
                changed = day[:at] + [come(who, other)] + day[at + 1:]
                if plain_bad([changed]) is None:
                    self.assert_explained(other == place, FRIENDS, [changed])
                    self.assert_explained(other == place, FRIENDS, [DAY, changed])

    def test_on_any_of_the_days(self):
        wrong = [come("ann", 0), come("bob", 1), come("cy", 1)]
        for at in range(3):
            days = [DAY, DAY, DAY]
            self.assert_explained(True, FRIENDS, days)
            days[at] = wrong
            self.assert_explained(False, FRIENDS, days)

    def test_few_people_each(self):
        seen = {True: 0, False: 0}
        for day in all_days_of_three():
            for friends in all_friends(NAMES[:3]):
                wanted = plain_explains(friends, [day])
                self.assertIs(explains(friends, [day]), wanted)
                seen[wanted] += 1
        self.assertGreater(min(seen.values()), 40)

    def test_as_many_as_may_be(self):
        people = ["p" + letter for letter in "abcdefghijklmnop"]
        for seed in range(3):
            friends, days = friendly_days(seed, people, 8, 0.2)
            self.assert_explained(True, friends, days)
            self.assert_explained(False, friends, days + [day_by((), people) if friends else []])
            self.assert_explained(True, friends, days + [day_by(friends, people)])

    def test_arguments(self):
        self.assert_arguments(explains, "(friends, days)")


def plain_told(days):
    """What each coming tells, by the words of [16]."""
    must, mustnt, makes = set(), set(), set()
    for deeds in days:
        row = []
        for word, *more in deeds:
            if word == "serve":
                row.pop(0)
                continue
            who, place = more
            behind = row[place:]
            if behind:
                must.add(pair(who, row[place - 1]))
                mustnt |= {pair(who, other) for other in behind}
            elif row:
                makes |= {(pair(who, other), pair(who, row[-1])) for other in row if other != row[-1]}
            row.insert(place, who)
    return (sorted(must), sorted(mustnt), sorted(makes))


def fits(friends, told):
    """Whether FRIENDS have all must, no mustnt, and with the one of makes the other."""
    must, mustnt, makes = told
    return (
        all(befriended(friends, *two) for two in must) and not any(befriended(friends, *two) for two in mustnt)
        and all(befriended(friends, *then) for two, then in makes if befriended(friends, *two))
    )


class ToldPairs(Asking):
    def assert_pairs(self, wanted, days):
        self.assertEqual(plain_told(days), wanted)
        self.assert_told(wanted, told_pairs, days)

    def test_nothing_told(self):
        for days in ([], [[]], [[come("ann", 0)]], [[come("ann", 0), SERVE, come("bob", 0), SERVE]]):
            self.assert_pairs(([], [], []), days)

    def test_two_people(self):
        # To the end behind the only one there: friends or not.
        self.assert_pairs(([], [], []), [[come("ann", 0), come("bob", 1)]])
        self.assert_pairs(([], [], []), [[come("ann", 0), come("bob", 1)], [come("bob", 0), come("ann", 1)]])

    def test_three_people(self):
        wanted = ([("ann", "cy")], [("bob", "cy")], [])
        self.assert_pairs(wanted, [[come("ann", 0), come("bob", 1), come("cy", 1)]])
        wanted = ([], [], [(("ann", "cy"), ("bob", "cy"))])
        self.assert_pairs(wanted, [[come("ann", 0), come("bob", 1), come("cy", 2)]])
        # The lesser NAME first, whoever comes.
        wanted = ([("ann", "cy")], [("ann", "bob")], [])
        self.assert_pairs(wanted, [[come("cy", 0), come("bob", 1), come("ann", 1)]])
        wanted = ([], [], [(("ann", "cy"), ("ann", "bob"))])
        self.assert_pairs(wanted, [[come("cy", 0), come("bob", 1), come("ann", 2)]])

    def test_more_people(self):
        day = [come("di", 0), come("bob", 1), come("eve", 2), come("ann", 1)]
        wanted = ([("ann", "di")], [("ann", "bob"), ("ann", "eve")], [(("di", "eve"), ("bob", "eve"))])
        self.assert_pairs(wanted, [day])
        # The row is di, ann, bob, eve by now.
        wanted = (
            [("ann", "di")], [("ann", "bob"), ("ann", "eve")],
            [(("ann", "cy"), ("cy", "eve")), (("bob", "cy"), ("cy", "eve")), (("cy", "di"), ("cy", "eve")),
             (("di", "eve"), ("bob", "eve"))],
        )
        self.assert_pairs(wanted, [day + [come("cy", 4)]])
        wanted = (
            [("ann", "di"), ("bob", "cy")], [("ann", "bob"), ("ann", "eve"), ("cy", "eve")],
            [(("di", "eve"), ("bob", "eve"))],
        )
        self.assert_pairs(wanted, [day + [come("cy", 3)]])

    def test_those_served_tell_nothing(self):
        day = [come("di", 0), come("bob", 1), SERVE, come("eve", 1), come("ann", 1)]
        self.assert_pairs(([("ann", "bob")], [("ann", "eve")], []), [day])
        day = [come("di", 0), come("bob", 1), come("eve", 2), SERVE, come("ann", 2)]
        wanted = ([], [], [(("ann", "bob"), ("ann", "eve")), (("di", "eve"), ("bob", "eve"))])
        self.assert_pairs(wanted, [day])

    def test_a_pair_of_must_and_of_mustnt(self):
        days = [[come("ann", 0), come("bob", 1), come("cy", 1)], [come("bob", 0), come("ann", 1), come("cy", 1)]]
        both = [("ann", "cy"), ("bob", "cy")]
        self.assert_pairs((both, both, []), days)

    def test_each_told_once(self):
        day = [come("ann", 0), come("bob", 1), come("cy", 1), come("di", 3)]
        once = plain_told([day])
        self.assert_pairs(once, [day])
        self.assert_pairs(once, [day, day, day])
        # That ann and cy are friends is told by either of them.
        wanted = ([("ann", "cy")], [("ann", "bob"), ("bob", "cy")], [])
        self.assert_pairs(wanted, [day[:3], [come("cy", 0), come("bob", 1), come("ann", 1)]])

    def test_one_makes_the_other_and_the_other_the_one(self):
        days = [[come("ann", 0), come("bob", 1), come("cy", 2)], [come("bob", 0), come("ann", 1), come("cy", 2)]]
        wanted = ([], [], [(("ann", "cy"), ("bob", "cy")), (("bob", "cy"), ("ann", "cy"))])
        self.assert_pairs(wanted, days)

    def test_friends_explain_days_just_where_they_fit(self):
        seen = {True: 0, False: 0}
        for day in all_days_of_three():
            told = told_pairs([day])
            self.assert_same(told, plain_told([day]))
            for friends in all_friends(NAMES[:3]):
                self.assertIs(explains(friends, [day]), fits(friends, told))
        for seed in range(40):
            days = right_days(seed, NAMES[:4], 3) if seed < 10 else friendly_days(seed, NAMES[:4], 3)[1]
            told = told_pairs(days)
            self.assert_same(told, plain_told(days))
            for friends in all_friends(NAMES[:4]):
                wanted = plain_explains(friends, days)
                self.assertIs(explains(friends, days), wanted)
                self.assertIs(fits(friends, told), wanted)
                seen[wanted] += 1
        self.assertGreater(min(seen.values()), 100)

    def test_as_many_as_may_be(self):
        people = ["p" + letter for letter in "abcdefghijklmnop"]
        for seed in range(3):
            days = right_days(seed, people, 8)
            self.assert_pairs(plain_told(days), days)
            friends, days = friendly_days(seed, people, 8)
            self.assert_pairs(plain_told(days), days)
            self.assertTrue(fits(friends, told_pairs(days)))

    def test_arguments(self):
        self.assert_arguments(told_pairs, "(days)")


if __name__ == "__main__":
    unittest.main()
