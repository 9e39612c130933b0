"""[15] what shows rows seen one behind another, and [1] (a) of them, with [2] and [3] of them."""

import itertools
import random
import unittest

from asking import NAMES, NO_NAMES, OTHER_THINGS, Asking, all_friends, by_chance, tampered
from letinrow.histories import history_of
from letinrow.sightcheck import shows_seen
from letinrow.sights import seen_after
from test_deeds import NO_DEEDS
from test_histories import SERVE, come, plain_paper
from test_historycheck import all_papers, plain_history
from test_sights import (
    FRIENDS, SERVED, SIGHTS, lacks, plain_bad, plain_parts, right_sights, rows_among, seen_by_chance,
)

HISTORIES = [
    [come("ann"), come("bob"), come("di")], [SERVE, come("cy")], [come("eve"), SERVE, SERVE],
]
# Of four sights the second and the last have none: bob can't have come between, nor di behind ann.
KNOWN = (("ann", "di"),)
SEEN = [(0, ("ann", "cy")), (0, ("ann", "bob", "cy")), (0, ("ann", "bob", "cy", "eve")),
        (0, ("ann", "bob", "di", "cy", "eve"))]
FIRST_PAPER = [("bob", "behind", ("cy",))]
LAST_PAPER = [("di", "between", ("bob",))]


def plain_seen(friends, served, sights, thing):
    """Whether a thing shows it, by the words of [15]."""
    parts = plain_parts(served, sights)
    if type(thing) is list:
        return len(thing) == len(parts) and all(
            plain_history(friends, between, row, elders, history)
            for (between, row, elders), history in zip(parts, thing)
        )
    if type(thing) is not tuple or len(thing) != 2 or type(thing[0]) is not int or thing[0] not in range(len(parts)):
        return False
    between, row, elders = parts[thing[0]]
    return plain_paper(friends, between, row, elders, thing[1])


class ShowsSeen(Asking):
    def assert_shown(self, wanted, thing, friends=FRIENDS, served=SERVED, sights=SIGHTS):
        self.assertIs(plain_seen(friends, served, sights, thing), wanted, thing)
        self.assert_judged(wanted, shows_seen, friends, served, sights, thing)

    def assert_none_shown(self, wanted, thing):
        self.assert_shown(wanted, thing, KNOWN, (), SEEN)

    def test_what_seen_after_tells(self):
        word, thing = seen_after(FRIENDS, SERVED, SIGHTS)
        self.assertEqual(word, "deeds")
        self.assert_shown(True, thing)
        word, thing = seen_after(KNOWN, (), SEEN)
        self.assertEqual((word, thing), ("none", (1, FIRST_PAPER)))
        self.assert_none_shown(True, thing)

    def test_not_with_the_word_that_is_told_beside_it(self):
        self.assert_shown(False, seen_after(FRIENDS, SERVED, SIGHTS))
        self.assert_shown(False, list(seen_after(FRIENDS, SERVED, SIGHTS)))
        self.assert_none_shown(False, seen_after(KNOWN, (), SEEN))
        self.assert_none_shown(False, FIRST_PAPER)

    def test_other_histories_than_told(self):
        self.assert_shown(True, HISTORIES)
        self.assert_shown(True, [[come("bob"), SERVE]], (), ("bob",), [(1, ())])
        self.assert_shown(True, [HISTORIES[0], HISTORIES[1], [SERVE, come("eve"), SERVE]])
        self.assert_shown(True, [HISTORIES[0], HISTORIES[1], [SERVE, SERVE, come("eve")]])
        self.assert_shown(True, [HISTORIES[0], [come("cy"), SERVE], HISTORIES[2]])
        self.assert_shown(False, [HISTORIES[0], [SERVE, come("eve"), come("cy")], [SERVE, SERVE]])

    def test_a_history_left_out_or_one_too_many(self):
        for at, history in enumerate(HISTORIES):
            self.assert_shown(False, HISTORIES[:at] + HISTORIES[at + 1:])
            self.assert_shown(False, HISTORIES[:at] + [history] + HISTORIES[at:])
            self.assert_shown(False, HISTORIES[:at] + [[]] + HISTORIES[at:])
            self.assert_shown(False, HISTORIES[:at] + [[]] + HISTORIES[at + 1:])
        self.assert_shown(False, [])
        self.assert_shown(False, HISTORIES + [[]])
        self.assert_shown(False, HISTORIES[:2])
        self.assert_shown(True, HISTORIES[:2], sights=SIGHTS[:2])
        self.assert_shown(False, HISTORIES, sights=SIGHTS[:2])

    def test_bare_histories(self):
        self.assert_shown(True, [[]], sights=[(0, ())])
        self.assert_shown(True, [[], []], sights=[(0, ()), (0, ())])
        self.assert_shown(True, [HISTORIES[0], []], sights=SIGHTS[:1] * 2)
        self.assert_shown(False, [[], HISTORIES[0]], sights=SIGHTS[:1] * 2)
        self.assert_shown(False, [], sights=[(0, ())])
        self.assert_shown(False, [()], sights=[(0, ())])
        self.assert_shown(False, ([],), sights=[(0, ())])
        self.assert_shown(False, [[], []], sights=[(0, ())])

    def test_histories_exchanged_or_all_in_one(self):
        for turned in itertools.permutations(HISTORIES):
            self.assert_shown(list(turned) == HISTORIES, list(turned))
        whole = [deed for history in HISTORIES for deed in history]
        self.assert_shown(False, [whole])
        self.assert_shown(False, whole)
        self.assert_shown(False, [whole, [], []])
        self.assert_shown(False, [[], [], whole])
        self.assert_shown(True, [whole], sights=SIGHTS[2:])

    def test_a_deed_otherwise(self):
        for at, history in enumerate(HISTORIES):
            for number, deed in enumerate(history):
                for other in [SERVE] + [come(who) for who in NAMES + ("zed",)] + [("go",), ("come",), None]:
                    changed = history[:number] + [other] + history[number + 1:]
                    self.assert_shown(other == deed, HISTORIES[:at] + [changed] + HISTORIES[at + 1:])
                self.assert_shown(False, HISTORIES[:at] + [history[:number] + history[number + 1:]] + HISTORIES[at + 1:])
                self.assert_shown(False, HISTORIES[:at] + [history[:number] + [deed] + history[number:]]
                                  + HISTORIES[at + 1:])

    def test_from_the_row_ahead_not_from_a_bare_one(self):
        histories = [history_of(FRIENDS, SERVED[:many], row)[1] for many, row in SIGHTS]
        self.assert_shown(True, histories[:1], sights=SIGHTS[:1])
        self.assert_shown(False, histories)
        self.assert_shown(False, histories[:2], sights=SIGHTS[:2])

    def test_more_served_behind_the_last_sight(self):
        for more in ((), ("cy",), ("cy", "eve"), ("zed",)):
            self.assert_shown(True, HISTORIES, served=SERVED[:3] + more)
        self.assert_shown(False, HISTORIES[:2] + [HISTORIES[2] + [SERVE]])

    def test_a_pair_of_any_sight_that_has_such_a_paper(self):
        self.assert_none_shown(True, (1, FIRST_PAPER))
        self.assert_none_shown(True, (3, LAST_PAPER))
        for number, paper in itertools.product(range(-2, 6), (FIRST_PAPER, LAST_PAPER)):
            self.assert_none_shown((number, paper) in ((1, FIRST_PAPER), (3, LAST_PAPER)), (number, paper))
        # Of those who are left at a later sight, too, and of some of them alone.
        friends, sights = (("ann", "cy"),), [(0, ("ann",)), (0, ("ann", "bob", "cy"))]
        paper = [("bob", "behind", ("cy",)), ("cy", "between", ("bob",))]
        self.assert_shown(True, (1, paper), friends, (), sights)
        self.assert_shown(True, (1, paper[::-1]), friends, (), sights)
        self.assert_shown(True, (0, paper), friends, (), sights[1:])
        self.assert_shown(True, (0, [("ann", "friend", ("cy",))] + paper), friends, (), sights[1:])
        self.assert_shown(False, (1, [("ann", "friend", ("cy",))] + paper), friends, (), sights)
        self.assert_shown(False, (1, paper[:1]), friends, (), sights)

    def test_where_all_have_histories(self):
        for number in range(-1, 4):
            for paper in ([], FIRST_PAPER, LAST_PAPER, [("di", "friend", ("ann",))], [("cy", "behind", ("bob",))]):
                self.assert_shown(False, (number, paper))

    def test_with_those_served_between_alone(self):
        # gus, served ahead of the first sight, is nobody's host in the line of the second one.
        friends = (("bob", "gus"), ("cy", "eve"))
        served = ("gus", "cy")
        sights = [(1, ("cy", "ann", "di")), (2, ("ann", "bob", "eve", "di"))]
        self.assert_shown(True, (1, [("bob", "behind", ("di",))]), friends, served, sights)
        self.assert_shown(True, (1, [("eve", "between", ("ann", "di"))]), friends, served, sights)
        self.assert_shown(False, (1, [("bob", "between", ("ann", "di"))]), friends, served, sights)
        self.assert_shown(False, (1, [("eve", "between", ("ann",))]), friends, served, sights)

    def test_a_number_that_is_none(self):
        friends, sights = (("ann", "cy"),), [(0, ("ann", "bob", "cy"))] * 2
        paper = [("bob", "behind", ("cy",)), ("cy", "between", ("bob",))]
        self.assert_shown(True, (0, paper), friends, (), sights)
        for number in (False, True, -1, -2, 2, 10 ** 30, -10 ** 30, None, "0", "", (0,), [0], (), []):
            self.assert_shown(False, (number, paper), friends, (), sights)
        self.assert_none_shown(True, (1, FIRST_PAPER))
        self.assert_none_shown(False, (True, FIRST_PAPER))
        self.assert_none_shown(False, (-3, FIRST_PAPER))
        self.assert_none_shown(False, (-1, LAST_PAPER))

    def test_lists_for_tuples_and_tuples_for_lists(self):
        self.assert_shown(False, tuple(HISTORIES))
        self.assert_shown(False, [tuple(history) for history in HISTORIES])
        self.assert_shown(False, [[list(deed) for deed in history] for history in HISTORIES])
        for at, history in enumerate(HISTORIES):
            self.assert_shown(False, HISTORIES[:at] + [tuple(history)] + HISTORIES[at + 1:])
            self.assert_shown(False, HISTORIES[:at] + [[list(history[0])] + history[1:]] + HISTORIES[at + 1:])
        self.assert_none_shown(False, [1, FIRST_PAPER])
        self.assert_none_shown(False, (1, tuple(FIRST_PAPER)))
        self.assert_none_shown(False, (1, [list(FIRST_PAPER[0])]))
        self.assert_none_shown(False, (1, [("bob", "behind", ["cy"])]))
        # A list of two, where there are two sights.
        self.assert_shown(False, [1, FIRST_PAPER], KNOWN, (), SEEN[:2])
        self.assert_shown(False, tuple(HISTORIES[:2]), sights=SIGHTS[:2])

    def test_too_few_or_too_many_in_the_pair(self):
        for thing in ((), (1,), (FIRST_PAPER,), (FIRST_PAPER, 1), (1, FIRST_PAPER, 1), (1, FIRST_PAPER[0]), (1, []),
                      (1, [FIRST_PAPER]), ((1, FIRST_PAPER),), [(1, FIRST_PAPER)], (1, None), (1, 1), (1, (1, 1))):
            self.assert_none_shown(False, thing)

    def test_other_things(self):
        for thing in OTHER_THINGS + NO_NAMES:
            self.assert_shown(False, thing)
            self.assert_shown(False, [thing] * 3)
            self.assert_shown(False, HISTORIES[:2] + [thing])
            self.assert_shown(False, HISTORIES[:2] + [HISTORIES[2] + [thing]])
            self.assert_shown(False, HISTORIES[:2] + [[thing]])
            self.assert_none_shown(False, thing)
            self.assert_none_shown(False, (thing, thing))
            self.assert_none_shown(False, (1, thing))
            self.assert_none_shown(False, (1, [thing]))
            self.assert_none_shown(False, (1, FIRST_PAPER + [thing]))
            self.assert_none_shown(False, (1, [("bob", thing, ("cy",))]))
            self.assert_none_shown(type(thing) is int and thing == 1, (thing, FIRST_PAPER))
        for deed in NO_DEEDS:
            self.assert_shown(False, [[deed]] + HISTORIES[1:])
            self.assert_shown(False, [HISTORIES[0] + [deed]] + HISTORIES[1:])

    def test_just_one_of_both_can_be(self):
        dice = random.Random(41)
        seen = {True: 0, False: 0}
        for friends in all_friends(NAMES[:3]):
            for _ in range(25):
                served, sights = right_sights(dice, dice.sample(NAMES[:3], 3), dice.randrange(1, 4))
                numbers = lacks(friends, served, sights)
                word, thing = seen_after(friends, served, sights)
                self.assertIs(shows_seen(friends, served, sights, thing), True)
                self.assertEqual(word == "none", bool(numbers))
                seen[word == "none"] += 1
                for number, (between, row, elders) in enumerate(plain_parts(served, sights)):
                    self.assertEqual(self.any_paper(friends, served, sights, number, between + row, elders),
                                     number in numbers)
        self.assertGreater(min(seen.values()), 20)

    def any_paper(self, friends, served, sights, number, line, elders):
        """Whether any paper whatever is shown for the sight of that number."""
        newcomers = [who for who in line if who not in elders]
        for many in range(1, len(newcomers) + 1):
            for whos in itertools.combinations(newcomers, many):
                for paper in all_papers(line, whos):
                    if shows_seen(friends, served, sights, (number, paper)):
                        return True
        return False

    def test_few_people_tampered(self):
        dice = random.Random(42)
        seen = {True: 0, False: 0}
        for _ in range(1500):
            people = dice.sample(NAMES, 4)
            friends = tuple(pair for pair in itertools.combinations(sorted(people), 2) if dice.random() < 0.5)
            served, sights = right_sights(dice, people, dice.randrange(1, 4))
            word, thing = seen_after(friends, served, sights)
            self.assertIs(shows_seen(friends, served, sights, thing), True)
            for _ in range(4):
                other = tampered(dice, thing)
                wanted = plain_seen(friends, served, sights, other)
                self.assertIs(shows_seen(friends, served, sights, other), wanted, other)
                seen[wanted] += 1
        self.assertGreater(min(seen.values()), 100)

    def test_as_many_as_may_be(self):
        friends, served, sights = seen_by_chance(2, 24, 0.15, 8, more_served=2)
        thing = seen_after(friends, served, sights)[1]
        self.assert_shown(True, thing, friends, served, sights)
        self.assert_shown(False, thing[:-1], friends, served, sights)
        self.assert_shown(False, thing[1:] + thing[:1], friends, served, sights)
        dice = random.Random(43)
        friends, people = by_chance(43, 24, 0.2)
        served, sights = right_sights(dice, people, 8)
        self.assertIs(plain_bad(served, sights), None)
        word, thing = seen_after(friends, served, sights)
        self.assertEqual(word, "none")
        self.assert_shown(True, thing, friends, served, sights)
        self.assert_shown(False, (thing[0], thing[1][:1] * 2), friends, served, sights)

    def test_rows_of_few_people_each_by_itself(self):
        for row in rows_among(NAMES[:3]):
            for friends in all_friends(NAMES[:3]):
                word, thing = seen_after(friends, (), [(0, row)])
                self.assertIs(shows_seen(friends, (), [(0, row)], thing), True)
                shown = shows_seen(friends, (), [(0, row)], [[come(who) for who in row]])
                self.assertIs(shown, plain_history(friends, (), row, (), [come(who) for who in row]))

    def test_arguments(self):
        self.assert_arguments(shows_seen, "(friends, served, sights, thing)")


if __name__ == "__main__":
    unittest.main()
