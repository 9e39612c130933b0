"""[17] friendships that explain days, and [1] (e) of them, with [2] and [3] of them."""

import itertools
import random
import unittest

from asking import NAMES, NO_NAMES, OTHER_THINGS, Asking, all_friends, tampered
from letinrow.days import explains, told_pairs
from letinrow.errors import BadDay
from letinrow.friendships import friendships, how_many_between, shows_clash
from letinrow.people import is_friends
from test_days import (
    DAY, SERVE, all_days_of_three, come, comers, day_by, fits, friendly_days, plain_bad, plain_told, right_days,
)

SIXTEEN = ["p" + letter for letter in "abcdefghijklmnop"]
# cy stands behind ann, ahead of bob; on the other day behind bob, ahead of ann.
CLASHING = [[come("ann", 0), come("bob", 1), come("cy", 1)], [come("bob", 0), come("ann", 1), come("cy", 1)]]
# di is ann's friend; so bob's, with whom it comes to the end; so cy's, behind whom it doesn't come to stand.
LONG = [
    [come("ann", 0), come("eve", 1), come("di", 1)], [come("ann", 0), come("bob", 1), come("di", 2)],
    [come("bob", 0), come("cy", 1), come("di", 2)], [come("gus", 0), come("cy", 1), come("flo", 2), come("di", 1)],
]
LONG_CHAIN = [("ann", "di"), ("bob", "di"), ("cy", "di")]


def pairs_of(days):
    return list(itertools.combinations(comers(days), 2))


def all_that_explain(days):
    """All FRIENDS of people who come that explain the days, each seen by what is told."""
    told = plain_told(days)
    return [set(friends) for friends in all_friends(comers(days)) if fits(friends, told)]


def shortest_chain(days):
    """How many pairs a shortest chain has, None where there's none, by chains of one pair, of two, and so on."""
    must, mustnt, makes = plain_told(days)
    ends, seen, many = set(must), set(), 1
    while ends:
        if ends & set(mustnt):
            return many
        seen |= ends
        ends = {made for pair, made in makes if pair in ends} - seen
        many += 1
    return None


def plain_clash(days, thing):
    """Whether a thing is a chain, by the words of [17]."""
    must, mustnt, makes = plain_told(days)
    if type(thing) is not list or not thing:
        return False
    if not all(type(pair) is tuple and len(pair) == 2 and all(type(who) is str for who in pair) for pair in thing):
        return False
    if thing[0] not in must or thing[-1] not in mustnt:
        return False
    return all((thing[at], thing[at + 1]) in makes for at in range(len(thing) - 1))


def days_of_few(people, seeds, many=7):
    """Days of these people, as chance had it: some by friends, some of them with a place otherwise, some any."""
    for seed in seeds:
        dice = random.Random(seed)
        if seed // 3 * 3 == seed:
            yield right_days(seed, people, many, dice.choice((0, 0.2)))
            continue
        friends, days = friendly_days(seed, people, many, dice.random(), dice.choice((0, 0.3)))
        comings = [(day, at) for day, deeds in enumerate(days) for at, deed in enumerate(deeds) if deed[0] == "come"]
        if seed // 3 * 3 == seed - 1 and comings:
            day, at = dice.choice(comings)
            days[day][at] = come(days[day][at][1], days[day][at][2] + dice.choice((-1, 1)))
            if plain_bad(days) is not None:
                continue
        yield days


class Friendships(Asking):
    def assert_friends(self, least, greatest, days):
        self.assert_told(("friends", least, greatest), friendships, days)
        self.assertTrue(explains(least, days))
        self.assertTrue(explains(greatest, days))

    def assert_clash(self, many, days):
        """That a chain of so many pairs is told."""
        told = friendships(days)
        self.assertIs(type(told), tuple)
        self.assertEqual((len(told), told[0]), (2, "clash"))
        self.assertTrue(plain_clash(days, told[1]), told)
        self.assertEqual(len(told[1]), many)
        self.assert_told(friendships(days), friendships, days)

    def test_no_days_and_bare_days(self):
        for days in ([], [[]], [[], []]):
            self.assert_friends((), (), days)
        self.assert_friends((), (), [[come("ann", 0)]])

    def test_two_people(self):
        self.assert_friends((), (("ann", "bob"),), [[come("ann", 0), come("bob", 1)]])
        self.assert_friends((), (("ann", "bob"),), [[come("ann", 0), SERVE, come("bob", 0)]])
        # On unlike days: never in one row.
        self.assert_friends((), (("ann", "bob"),), [[come("ann", 0)], [come("bob", 0)]])

    def test_three_with_one_between(self):
        day = [come("ann", 0), come("bob", 1), come("cy", 1)]
        self.assert_friends((("ann", "cy"),), (("ann", "bob"), ("ann", "cy")), [day])
        self.assert_friends((("ann", "cy"),), (("ann", "bob"), ("ann", "cy")), [day, day, day[:2]])

    def test_to_the_end_behind_two(self):
        day = [come("ann", 0), come("bob", 1), come("cy", 2)]
        every = (("ann", "bob"), ("ann", "cy"), ("bob", "cy"))
        self.assert_friends((), every, [day])
        # With ann and cy friends bob and cy are; where these aren't, those aren't either.
        other = [come("di", 0), come("ann", 1), come("eve", 2), come("cy", 2)]
        told = friendships([day, other])
        self.assertEqual(told[1], (("ann", "cy"), ("bob", "cy")))
        other = [come("ann", 0), come("di", 1), come("bob", 2), come("cy", 2)]
        told = friendships([day, other])
        self.assertEqual(told[1], (("cy", "di"),))
        self.assertNotIn(("bob", "cy"), told[2])
        self.assertNotIn(("ann", "cy"), told[2])

    def test_strangers(self):
        people = ["cy", "ann", "di", "bob"]
        day = day_by((), people)
        told = friendships([day])
        self.assert_friends((), tuple(itertools.combinations(sorted(people), 2)), [day])
        self.assertEqual(told[1], ())

    def test_all_friends(self):
        people = NAMES[:4]
        every = tuple(itertools.combinations(people, 2))
        # Each comes to stand right behind the last one there: to the end, as strangers do.
        self.assert_friends((), every, [day_by(every, people)])

    def test_behind_the_first_each(self):
        people = NAMES[:4]
        friends = tuple(("ann", who) for who in people[1:])
        self.assert_friends((("ann", "cy"), ("ann", "di")), friends, [day_by(friends, people)])

    def test_days_by_friends(self):
        friends = (("ann", "di"), ("ann", "eve"), ("bob", "cy"))
        word, least, greatest = friendships([DAY])
        self.assertEqual(word, "friends")
        self.assertEqual(least, (("ann", "di"),))
        self.assertTrue(set(least) <= set(friends) <= set(greatest))

    def test_greatest_has_people_who_never_meet(self):
        days = [[come("ann", 0), come("bob", 1)], [come("cy", 0)]]
        self.assert_friends((), (("ann", "bob"), ("ann", "cy"), ("bob", "cy")), days)

    def test_a_clash_of_one(self):
        self.assert_clash(1, CLASHING)
        self.assertIn(friendships(CLASHING)[1], ([("ann", "cy")], [("bob", "cy")]))

    def test_a_clash_over_several(self):
        self.assert_clash(3, LONG)
        self.assert_told(("clash", LONG_CHAIN), friendships, LONG)
        for at in range(4):
            self.assertEqual(friendships(LONG[:at] + LONG[at + 1:])[0], "friends")

    def test_one_of_the_shortest(self):
        # Ann's friend di is flo's, too, with whom it doesn't stand.
        shorter = LONG + [[come("ann", 0), come("flo", 1), come("di", 2)]]
        self.assert_clash(2, shorter)
        self.assert_clash(1, LONG + CLASHING)
        self.assert_clash(1, CLASHING + LONG)

    def test_pairs_that_make_each_other(self):
        day, other = [come("ann", 0), come("bob", 1), come("cy", 2)], [come("bob", 0), come("ann", 1), come("cy", 2)]
        self.assert_friends((), (("ann", "bob"), ("ann", "cy"), ("bob", "cy")), [day, other])
        both = (("ann", "cy"), ("bob", "cy"))
        last = [come("bob", 0), come("di", 1), come("cy", 1)]
        self.assertEqual(friendships([day, other, last])[1], both)
        last = [come("di", 0), come("bob", 1), come("cy", 1)]
        told = friendships([day, other, last])
        self.assertEqual(told[1], (("cy", "di"),))
        self.assertFalse(set(both) & set(told[2]))

    def assert_as_all_friendships(self, days):
        """Held against all friendships of those who come; told is which of both it was."""
        found = all_that_explain(days)
        told = friendships(days)
        self.assertEqual(how_many_between(days), len(found))
        if not found:
            self.assertEqual(len(told), 2)
            self.assertTrue(plain_clash(days, told[1]), told)
            self.assertEqual(len(told[1]), shortest_chain(days))
            self.assertIs(shows_clash(days, told[1]), True)
            return "clash"
        self.assertIs(shortest_chain(days), None)
        least, greatest = set.intersection(*found), set.union(*found)
        self.assert_same(told, ("friends", tuple(sorted(least)), tuple(sorted(greatest))))
        self.assertTrue(is_friends(told[1]) and is_friends(told[2]))
        return "friends"

    def test_three_people_against_all_friendships(self):
        seen = set()
        every = list(all_days_of_three())
        dice = random.Random(51)
        for day in every:
            self.assertEqual(self.assert_as_all_friendships([day]), "friends")
        for _ in range(1500):
            seen.add(self.assert_as_all_friendships(dice.choices(every, k=dice.choice((2, 3)))))
        self.assertEqual(seen, {"friends", "clash"})

    def test_four_people_against_all_friendships(self):
        seen = {}
        for days in days_of_few(NAMES[:4], range(400)):
            told = self.assert_as_all_friendships(days)
            seen[told] = seen.get(told, 0) + 1
        self.assertGreater(min(seen["friends"], seen["clash"]), 40, seen)

    def test_five_people_against_all_friendships(self):
        seen = {}
        for days in days_of_few(NAMES[:5], range(40)):
            told = self.assert_as_all_friendships(days)
            seen[told] = seen.get(told, 0) + 1
        self.assertGreater(min(seen["friends"], seen["clash"]), 5)

    def test_what_two_have_together_or_both_explains_too(self):
        for days in days_of_few(NAMES[:4], range(0, 200, 5), 2):
            found = [tuple(sorted(friends)) for friends in all_that_explain(days)]
            for one, other in itertools.islice(itertools.combinations(found, 2), 0, None, 7):
                self.assertTrue(explains(tuple(sorted(set(one) & set(other))), days))
                self.assertTrue(explains(tuple(sorted(set(one) | set(other))), days))

    def test_pairs_of_whom_one_never_comes_are_no_matter(self):
        day = [come("ann", 0), come("bob", 1), come("cy", 1)]
        self.assertTrue(explains((("ann", "cy"), ("ann", "zed"), ("yan", "zed")), [day]))
        self.assert_friends((("ann", "cy"),), (("ann", "bob"), ("ann", "cy")), [day])

    def test_as_many_as_may_be(self):
        seen = {"friends": 0, "clash": 0}
        for days in days_of_few(SIXTEEN, range(12), 8):
            self.assertLessEqual(max(map(len, days)), 32)
            told = friendships(days)
            seen[told[0]] += 1
            if told[0] == "clash":
                self.assert_clash(shortest_chain(days), days)
            else:
                self.assertIs(shortest_chain(days), None)
                self.assert_friends(told[1], told[2], days)
                self.assert_none_beyond(days, set(told[1]), set(told[2]))
        self.assertGreater(min(seen.values()), 1)

    def assert_none_beyond(self, days, least, greatest):
        """That no pair of the least can be missing, and no other one be had: each would lead to a clash."""
        must, mustnt, makes = plain_told(days)
        for pair in least:
            self.assertTrue(pair in must or any(made == pair and one in least for one, made in makes))
        for pair in set(pairs_of(days)) - greatest:
            self.assertTrue(pair in mustnt or any(one == pair and made not in greatest for one, made in makes))

    def test_a_place_otherwise(self):
        seen = set()
        for seed in range(10):
            friends, days = friendly_days(seed, SIXTEEN, 8, 0.3)
            for at, (word, *more) in enumerate(days[0]):
                if word == "come" and more[1] > 1:
                    other = [days[0][:at] + [come(more[0], more[1] - 1)] + days[0][at + 1:]] + days[1:]
                    told = friendships(other)
                    seen.add(told[0])
                    if told[0] == "clash":
                        self.assertTrue(plain_clash(other, told[1]))
                    else:
                        self.assertTrue(explains(told[1], other) and explains(told[2], other))
        self.assertEqual(seen, {"friends", "clash"})

    def test_arguments(self):
        self.assert_arguments(friendships, "(days)")


class ShowsClash(Asking):
    def assert_shown(self, wanted, days, thing):
        self.assertIs(plain_clash(days, thing), wanted, thing)
        self.assert_judged(wanted, shows_clash, days, thing)

    def test_the_told_one(self):
        self.assert_shown(True, LONG, friendships(LONG)[1])
        self.assert_shown(True, CLASHING, friendships(CLASHING)[1])

    def test_right_ones(self):
        self.assert_shown(True, CLASHING, [("ann", "cy")])
        self.assert_shown(True, CLASHING, [("bob", "cy")])
        self.assert_shown(True, LONG, LONG_CHAIN)

    def test_longer_ones(self):
        shorter = LONG + [[come("ann", 0), come("flo", 1), come("di", 2)]]
        self.assert_shown(True, shorter, LONG_CHAIN)
        self.assert_shown(True, shorter, [("ann", "di"), ("di", "flo")])
        # bob's and cy's friendship with di make each other: a chain may go about as often as it likes.
        about = LONG + [[come("cy", 0), come("bob", 1), come("di", 2)]]
        for many in range(5):
            chain = LONG_CHAIN + [("bob", "di"), ("cy", "di")] * many
            self.assert_shown(True, about, chain)
            self.assert_shown(many == 0, LONG, chain)
            self.assert_shown(False, about, chain[:-1])

    def test_cut(self):
        for at in range(3):
            self.assert_shown(False, LONG, LONG_CHAIN[:at] + LONG_CHAIN[at + 1:])
            self.assert_shown(False, LONG, LONG_CHAIN[:at])
            self.assert_shown(False, LONG, LONG_CHAIN[:at] + LONG_CHAIN[at:at + 1] + LONG_CHAIN[at:])
        self.assert_shown(False, LONG, [])
        self.assert_shown(False, CLASHING, [])
        self.assert_shown(False, [], [])
        self.assert_shown(False, CLASHING, [("ann", "cy"), ("ann", "cy")])

    def test_exchanged(self):
        for turned in itertools.permutations(LONG_CHAIN):
            self.assert_shown(list(turned) == LONG_CHAIN, LONG, list(turned))
        for at, (one, other) in enumerate(LONG_CHAIN):
            self.assert_shown(False, LONG, LONG_CHAIN[:at] + [(other, one)] + LONG_CHAIN[at + 1:])

    def test_begins_and_ends_wrongly(self):
        must, mustnt, makes = told_pairs(LONG)
        for first, last in itertools.product(must + mustnt + [("ann", "zed"), ("di", "zed")], repeat=2):
            wanted = (first, last) == (("ann", "di"), ("cy", "di"))
            self.assert_shown(wanted, LONG, [first, ("bob", "di"), last])
        for pair in must + mustnt:
            self.assert_shown(False, LONG, [pair])

    def test_other_pairs_between(self):
        for pair in itertools.combinations(NAMES, 2):
            self.assert_shown(pair == ("bob", "di"), LONG, [("ann", "di"), pair, ("cy", "di")])

    def test_lists_for_tuples_and_a_tuple_for_the_list(self):
        self.assert_shown(False, LONG, tuple(LONG_CHAIN))
        self.assert_shown(False, LONG, [list(pair) for pair in LONG_CHAIN])
        self.assert_shown(False, CLASHING, [["ann", "cy"]])
        self.assert_shown(False, CLASHING, (("ann", "cy"),))
        self.assert_shown(False, CLASHING, ("ann", "cy"))
        self.assert_shown(False, CLASHING, ["ann", "cy"])
        for at, pair in enumerate(LONG_CHAIN):
            for other in (list(pair), pair + pair, pair[:1], (pair,), "-".join(pair), "".join(pair)):
                self.assert_shown(False, LONG, LONG_CHAIN[:at] + [other] + LONG_CHAIN[at + 1:])

    def test_not_with_the_word_that_is_told_beside_it(self):
        self.assert_shown(False, LONG, friendships(LONG))
        self.assert_shown(False, LONG, list(friendships(LONG)))
        self.assert_shown(False, LONG, [LONG_CHAIN])

    def test_other_things(self):
        for thing in OTHER_THINGS + NO_NAMES:
            for days in (LONG, CLASHING, []):
                self.assert_shown(False, days, thing)
                self.assert_shown(False, days, [thing])
            self.assert_shown(False, LONG, LONG_CHAIN + [thing])
            self.assert_shown(False, LONG, [thing] + LONG_CHAIN)
            self.assert_shown(False, LONG, LONG_CHAIN[:1] + [thing] + LONG_CHAIN[2:])
            self.assert_shown(False, CLASHING, [("ann", thing)])

    def test_where_friends_explain_the_days_there_is_none(self):
        for days in days_of_few(NAMES[:4], range(1, 200, 3), 2):
            pairs = pairs_of(days)
            shown = any(
                shows_clash(days, list(thing)) for many in range(4) for thing in itertools.product(pairs, repeat=many)
            )
            self.assertEqual(shown, friendships(days)[0] == "clash" and shortest_chain(days) <= 3)

    def test_tampered(self):
        dice = random.Random(52)
        seen = {True: 0, False: 0}
        for days in days_of_few(NAMES[:5], range(200)):
            word, *told = friendships(days)
            if word == "friends":
                continue
            self.assertIs(shows_clash(days, told[0]), True)
            for _ in range(5):
                other = tampered(dice, told[0])
                wanted = plain_clash(days, other)
                self.assertIs(shows_clash(days, other), wanted, other)
                seen[wanted] += 1
        self.assertGreater(seen[False], 100)

    def test_as_many_as_may_be(self):
        for days in days_of_few(SIXTEEN, range(0, 9, 3), 8):
            word, chain = friendships(days)
            self.assert_shown(True, days, chain)
            self.assert_shown(False, days, chain + chain)

    def test_arguments(self):
        self.assert_arguments(shows_clash, "(days, thing)")


class HowMany(Asking):
    def assert_many(self, wanted, days):
        self.assert_told(wanted, how_many_between, days)

    def test_nobody_and_one(self):
        for days in ([], [[]], [[], []], [[come("ann", 0)]], [[come("ann", 0), SERVE], [come("ann", 0)]]):
            self.assert_many(1, days)

    def test_by_hand(self):
        self.assert_many(2, [[come("ann", 0), come("bob", 1)]])
        self.assert_many(8, [[come("ann", 0)], [come("bob", 0)], [come("cy", 0)]])
        # ann and cy are friends, bob and cy aren't; ann and bob may be.
        self.assert_many(2, [[come("ann", 0), come("bob", 1), come("cy", 1)]])
        # cy is a friend of nobody, of bob, or of both; ann and bob may be.
        self.assert_many(6, [[come("ann", 0), come("bob", 1), come("cy", 2)]])
        both = [[come("ann", 0), come("bob", 1), come("cy", 2)], [come("bob", 0), come("ann", 1), come("cy", 2)]]
        self.assert_many(4, both)

    def test_none(self):
        self.assert_many(0, CLASHING)
        self.assert_many(0, LONG)
        self.assert_many(0, LONG + CLASHING)

    def test_never_together(self):
        for many in range(7):
            days = [[come(who, 0) for who in NAMES[:many][at:at + 1]] for at in range(8)]
            self.assert_many(2 ** (many * (many - 1) // 2), days)

    def test_strangers(self):
        # Each is a friend of nobody ahead, or of the last one there, and of any others: 2 to the other ones, and 1.
        wanted = 1
        for many in range(1, 7):
            self.assert_many(wanted, [day_by((), NAMES[:many])])
            wanted *= 2 ** (many - 1) + 1

    def test_six_people_against_all_friendships(self):
        counts = set()
        for seed in range(1, 40, 3):
            friends, days = friendly_days(seed, NAMES, 1 + seed // 10, 0.2 + seed / 80)
            told = how_many_between(days)
            self.assertEqual(told, plain_count(days))
            counts.add(told)
        self.assertGreater(len(counts), 5)
        for days in days_of_few(NAMES, range(0, 30, 2), 4):
            self.assertEqual(how_many_between(days), plain_count(days))

    def test_arguments(self):
        self.assert_arguments(how_many_between, "(days)")


def plain_count(days):
    """How many friendships fit, each looked at, as numbers whose bits are the pairs."""
    must, mustnt, makes = plain_told(days)
    bits = {pair: 1 << at for at, pair in enumerate(pairs_of(days))}
    wanted, barred = sum(bits[pair] for pair in must), sum(bits[pair] for pair in mustnt)
    rules = [(bits[pair], bits[made]) for pair, made in makes]
    found = [some for some in range(1 << len(bits)) if some & wanted == wanted and not some & barred]
    return len([some for some in found if all(not some & one or some & made for one, made in rules)])


class BadDays(Asking):
    def test_all_four(self):
        for days, day, deed in (
            ([[SERVE]], 0, 0), ([DAY, [come("ann", 1)]], 1, 0), ([[], [come("ann", 0), come("ann", 1)]], 1, 1),
            ([DAY, DAY[:2] + [come("zed", 0)], [SERVE]], 1, 2), (CLASHING + [[come("ann", -1)]], 2, 0),
            ([[come("ann", 0), come("bob", 2)]], 0, 1), ([[come("ann", 0), SERVE, SERVE]], 0, 2),
        ):
            self.assertEqual(plain_bad(days), (day, deed))
            fields = {"day": day, "deed": deed}
            for function in (friendships, how_many_between, told_pairs):
                self.assert_refused(BadDay, fields, function, days)
            self.assert_refused(BadDay, fields, explains, (), days)
            self.assert_refused(BadDay, fields, explains, (("ann", "bob"),), days)


if __name__ == "__main__":
    unittest.main()
