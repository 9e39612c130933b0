"""[13] histories shown, [14] papers of none shown, with [1] (a), [2] and [3] of them."""

import itertools
import random
import unittest

from asking import NAMES, NO_NAMES, OTHER_THINGS, Asking, tampered
from letinrow.histories import history_of
from letinrow.historycheck import shows_history, shows_never
from test_deeds import NO_DEEDS
from test_histories import SERVE, come, done_by_chance, lines, lines_of_many, plain_done, plain_paper

FRIENDS = (("ann", "di"), ("ann", "eve"), ("bob", "cy"))
SERVED, ROW = ("ann", "di", "bob"), ("cy", "eve")
HISTORY = [come("ann"), come("bob"), come("di"), SERVE, come("eve"), come("cy"), SERVE, SERVE]
WORDS = ("friend", "between", "behind")


def plain_history(friends, served, row, elders, thing):
    """Whether a thing is a history: right deeds alone, and what is done by them."""
    if type(thing) is not list or not all(type(deed) is tuple for deed in thing):
        return False
    for deed in thing:
        if deed != SERVE and not (len(deed) == 2 and deed[0] == "come" and deed[1] in served + row):
            return False
    try:
        return plain_done(friends, thing, elders) == (list(served), list(row))
    except (AssertionError, IndexError):
        return False


class ShowsHistory(Asking):
    def assert_shown(self, wanted, thing, friends=FRIENDS, served=SERVED, row=ROW, **elders):
        self.assert_judged(wanted, shows_history, friends, served, row, thing, **elders)

    def test_right_ones(self):
        self.assert_shown(True, HISTORY)
        self.assert_shown(True, HISTORY, elders=())
        self.assert_shown(True, history_of(FRIENDS, SERVED, ROW)[1])
        self.assert_shown(True, HISTORY[1:], elders=("ann",))
        self.assert_shown(True, HISTORY[3:], elders=("ann", "di", "bob"))
        self.assert_shown(False, HISTORY[1:])
        self.assert_shown(False, HISTORY, elders=("ann",))
        self.assert_shown(False, HISTORY[1:], elders=("bob",))

    def test_nothing_done(self):
        self.assert_shown(True, [], served=(), row=())
        self.assert_shown(True, [], served=(), row=("ann", "bob"), elders=("ann", "bob"))
        self.assert_shown(False, [], served=(), row=("ann", "bob"))
        self.assert_shown(False, [], served=("ann",), row=("bob",), elders=("ann", "bob"))
        self.assert_shown(True, [SERVE], served=("ann",), row=("bob",), elders=("ann", "bob"))
        self.assert_shown(False, [SERVE], served=(), row=("ann", "bob"), elders=("ann", "bob"))
        self.assert_shown(False, (), served=(), row=())
        self.assert_shown(False, [SERVE], served=(), row=())

    def test_those_served_in_their_order(self):
        for served in itertools.permutations(SERVED):
            self.assert_shown(served == SERVED, HISTORY, served=served)
        for row in itertools.permutations(ROW):
            self.assert_shown(row == ROW, HISTORY, row=row)
        self.assert_shown(False, HISTORY, served=SERVED + ("cy",), row=("eve",))
        self.assert_shown(False, HISTORY, served=SERVED[:2], row=("bob",) + ROW)

    def test_a_deed_left_out_twice_or_another(self):
        for at, deed in enumerate(HISTORY):
            self.assert_shown(False, HISTORY[:at] + HISTORY[at + 1:])
            self.assert_shown(False, HISTORY[:at] + [deed] + HISTORY[at:])
            for who in NAMES + ("zed",):
                thing = HISTORY[:at] + [come(who)] + HISTORY[at + 1:]
                self.assert_shown(thing == HISTORY, thing)
        self.assert_shown(False, HISTORY + [SERVE])
        self.assert_shown(False, [SERVE] + HISTORY)
        self.assert_shown(False, HISTORY + [come("zed")])

    def test_deeds_exchanged(self):
        seen = set()
        for one, other in itertools.combinations(range(len(HISTORY)), 2):
            thing = list(HISTORY)
            thing[one], thing[other] = thing[other], thing[one]
            wanted = plain_history(FRIENDS, SERVED, ROW, (), thing)
            seen.add(wanted)
            self.assert_shown(wanted, thing)
        self.assertEqual(seen, {True, False})

    def test_lists_for_tuples_and_a_tuple_for_the_list(self):
        self.assert_shown(False, tuple(HISTORY))
        self.assert_shown(False, [list(deed) for deed in HISTORY])
        self.assert_shown(False, [HISTORY])
        for at, deed in enumerate(HISTORY):
            self.assert_shown(False, HISTORY[:at] + [list(deed)] + HISTORY[at + 1:])

    def test_deeds_that_are_none(self):
        for deed in NO_DEEDS + NO_NAMES:
            self.assert_shown(False, [deed])
            self.assert_shown(False, HISTORY + [deed])
            self.assert_shown(False, HISTORY[:3] + [deed] + HISTORY[4:])

    def test_other_things(self):
        for thing in OTHER_THINGS:
            self.assert_shown(False, thing)
            self.assert_shown(False, thing, served=(), row=())
            self.assert_shown(False, [thing], served=(), row=("a",))
            self.assert_shown(False, HISTORY + [thing])

    def test_who_was_there_comes_no_more(self):
        self.assert_shown(False, [SERVE, come("ann")], served=("ann",), row=("ann",), elders=("ann",))
        self.assert_shown(False, [come("ann"), SERVE, come("ann")], served=("ann",), row=("ann",))

    def test_lines_of_few_people(self):
        dice = random.Random(21)
        for many, step in ((1, 1), (2, 1), (3, 1), (4, 5)):
            for friends, served, row, elders, found in lines(many, step):
                for thing in found:
                    self.assertIs(shows_history(friends, served, row, thing, elders=elders), True)
                    other = tampered(dice, thing)
                    wanted = plain_history(friends, served, row, elders, other)
                    self.assertIs(shows_history(friends, served, row, other, elders=elders), wanted)
                comings = [come(who) for who in served + row if who not in elders]
                other = dice.sample(comings + [SERVE] * len(served), len(comings) + len(served))
                self.assertIs(shows_history(friends, served, row, other, elders=elders), other in found)

    def test_as_many_as_may_be(self):
        for friends, served, row, elders, _ in itertools.islice(lines_of_many(), 0, None, 4):
            word, thing = history_of(friends, served, row, elders=elders)
            self.assert_shown(word == "deeds", thing, friends, served, row, elders=elders)
            self.assert_shown(False, thing[:-1], friends, served, row, elders=elders)

    def test_arguments(self):
        self.assert_arguments(shows_history, "(friends, served, row, thing, *, elders=())")


# gus was served and is cy's last friend ahead; flo, who is there at first, stands behind all.
KNOWN = (("ann", "bob"), ("cy", "gus"), ("di", "flo"))
GONE, THERE = ("gus", "eve"), ("cy", "ann", "di", "bob", "flo")
STAYED = ("eve", "flo")
PAPER = [
    ("cy", "between", ("eve", "flo")), ("ann", "friend", ("bob",)), ("di", "friend", ("flo",)),
    ("bob", "between", ("di",)),
]


class ShowsNever(Asking):
    def assert_shown(self, wanted, thing, friends=KNOWN, served=GONE, row=THERE, elders=STAYED):
        self.assertIs(plain_paper(friends, served, row, elders, thing), wanted, thing)
        self.assert_judged(wanted, shows_never, friends, served, row, thing, elders=elders)

    def assert_first_shown(self, wanted, clause):
        """With another clause for cy."""
        self.assert_shown(wanted, [clause] + PAPER[1:])

    def test_right_ones(self):
        self.assert_shown(True, PAPER)
        self.assert_shown(True, history_of(KNOWN, GONE, THERE, elders=STAYED)[1])
        # Of fewer people, and in another order, too.
        self.assert_shown(True, PAPER[:1])
        self.assert_shown(True, PAPER[2:3])
        self.assert_shown(True, PAPER[1:])
        self.assert_shown(True, PAPER[::-1])

    def test_without_elders(self):
        friends, row = (("ann", "cy"),), ("ann", "bob", "cy")
        paper = [("bob", "behind", ("cy",)), ("cy", "between", ("bob",))]
        self.assert_shown(True, paper, friends, (), row, ())
        self.assert_judged(True, shows_never, friends, (), row, paper)
        self.assert_judged(True, shows_never, friends, (), row, [("ann", "friend", ("cy",))] + paper)
        self.assert_judged(False, shows_never, friends, (), row, paper[:1])
        self.assert_judged(False, shows_never, friends, ("ann",), row[1:], paper)
        self.assert_judged(False, shows_never, KNOWN, GONE, THERE, PAPER)

    def test_a_triple_left_out(self):
        # cy and di are barred by elders alone; ann and bob need others of the list.
        for at, (who, _, _) in enumerate(PAPER):
            self.assert_shown(who in ("cy", "ann"), PAPER[:at] + PAPER[at + 1:])

    def test_a_bare_list(self):
        self.assert_shown(False, [])
        self.assert_shown(False, ())
        self.assert_shown(False, [], (), (), (), ())

    def test_a_who_twice(self):
        for part in PAPER:
            self.assert_shown(False, PAPER + [part])
        self.assert_shown(False, PAPER + [("ann", "friend", ("bob",))])
        self.assert_shown(False, [("cy", "between", ("eve", "bob"))] + PAPER)

    def test_an_elder_or_a_stranger_as_who(self):
        self.assert_shown(True, PAPER + [("gus", "friend", ("cy",))])
        self.assert_shown(False, PAPER + [("gus", "friend", ("cy",))], elders=("gus",) + STAYED)
        self.assert_shown(False, PAPER + [("eve", "behind", ("flo",))])
        self.assert_shown(False, PAPER + [("zed", "behind", ("flo",))])
        self.assert_shown(False, [("eve", "behind", ("flo",))])

    def test_others_not_of_the_list_nor_elders(self):
        self.assert_first_shown(True, ("cy", "between", ("eve", "flo")))
        self.assert_shown(False, [("cy", "between", ("eve", "bob"))])
        self.assert_shown(True, [("cy", "between", ("eve", "bob"))] + PAPER[1:])
        self.assert_shown(False, PAPER, elders=("flo",))
        self.assert_shown(False, PAPER, elders=("eve",))
        self.assert_first_shown(False, ("cy", "between", ("eve", "zed")))
        self.assert_first_shown(False, ("cy", "between", ("zed", "flo")))

    def test_on_the_wrong_side(self):
        for others in itertools.product(GONE + THERE, repeat=2):
            self.assert_first_shown(others[0] == "eve" and others[1] in THERE[1:], ("cy", "between", others))
        for one in GONE + THERE:
            self.assert_shown(one == "di", PAPER[:3] + [("bob", "between", (one,))])
            self.assert_shown(one == "bob", PAPER[:1] + [("ann", "friend", (one,))] + PAPER[2:])
        for one in GONE + THERE + ("zed",):
            thing = PAPER[:1] + [("ann", "behind", (one,))] + PAPER[2:]
            self.assert_shown(one in ("di", "bob", "flo"), thing)

    def test_just_behind_the_last_friend(self):
        friends = (("ann", "di"), ("bob", "di"))
        row = ("ann", "eve", "bob", "cy", "di")
        elders = ("ann", "eve", "bob", "cy")
        for one in row:
            self.assert_shown(one == "cy", [("di", "between", (one,))], friends, (), row, elders)
        for many in range(5):
            wanted = many < 3
            self.assert_shown(wanted, [("di", "between", ("cy",))], friends, row[:many], row[many:], elders)

    def test_too_few_or_too_many_others(self):
        for others in ((), ("eve",), ("flo",), ("eve", "flo", "flo"), ("eve", "ann", "flo"), ("flo", "eve")):
            self.assert_first_shown(False, ("cy", "between", others))
        for others in ((), ("di", "flo"), ("di", "di"), ("di", "ann")):
            self.assert_shown(False, PAPER[:3] + [("bob", "between", others)])
        for word, others in itertools.product(("friend", "behind"), ((), ("bob", "flo"), ("bob", "bob"))):
            self.assert_shown(False, PAPER[:1] + [("ann", word, others)] + PAPER[2:])

    def test_another_word(self):
        for at, (who, word, others) in enumerate(PAPER):
            for other in WORDS + ("", "bars", "Friend", "friend ", None, True, 0, (word,), [word], who):
                thing = PAPER[:at] + [(who, other, others)] + PAPER[at + 1:]
                wanted = other == word or (who, other) in (("ann", "behind"), ("di", "behind"))
                self.assert_shown(wanted, thing)

    def test_behind_just_without_a_friend_ahead(self):
        self.assert_shown(False, [("bob", "behind", ("flo",))])
        self.assert_shown(False, [("cy", "behind", ("flo",))])
        self.assert_shown(True, [("ann", "behind", ("flo",))])
        self.assert_shown(True, [("gus", "behind", ("eve",))])

    def test_lists_for_tuples_and_a_tuple_for_the_list(self):
        self.assert_shown(False, tuple(PAPER))
        self.assert_shown(False, [list(part) for part in PAPER])
        for at, (who, word, others) in enumerate(PAPER):
            for part in (
                [who, word, others], (who, word, list(others)), (who, word) + others, (who, word, others, others),
                (who, word), (who,), (), who, ((who, word, others),), (who, others, word), (who, word, others[0]),
                ((who,), word, others), ([who], word, others), (who, word, (others,)), None, True, 3,
            ):
                self.assert_shown(False, PAPER[:at] + [part] + PAPER[at + 1:])

    def test_other_things(self):
        for thing in OTHER_THINGS:
            self.assert_shown(False, thing)
            self.assert_shown(False, [thing])
            self.assert_shown(False, PAPER + [thing])
            self.assert_first_shown(False, (thing, "between", ("eve", "flo")))
            self.assert_first_shown(False, ("cy", thing, ("eve", "flo")))
            self.assert_first_shown(False, ("cy", "between", thing))
            self.assert_first_shown(False, ("cy", "between", ("eve", thing)))
        for name in NO_NAMES:
            self.assert_shown(False, PAPER + [(name, "behind", ("flo",))])
            self.assert_first_shown(False, ("cy", "between", ("eve", name)))

    def test_just_one_of_history_and_paper(self):
        for friends, served, row, elders, found in lines(3):
            line = served + row
            newcomers = [who for who in line if who not in elders]
            shown = False
            for many in range(1, len(newcomers) + 1):
                for whos in itertools.combinations(newcomers, many):
                    for thing in all_papers(line, whos):
                        told = shows_never(friends, served, row, thing, elders=elders)
                        self.assertIs(told, plain_paper(friends, served, row, elders, thing))
                        shown = shown or told
            self.assertEqual(shown, not found)

    def test_lines_of_few_people(self):
        dice = random.Random(22)
        seen = {True: 0, False: 0}
        for many, step in ((2, 1), (3, 1), (4, 2)):
            for friends, served, row, elders, found in lines(many, step):
                word, thing = history_of(friends, served, row, elders=elders)
                self.assertIs(shows_never(friends, served, row, thing, elders=elders), not found)
                for _ in range(3):
                    other = tampered(dice, thing)
                    wanted = plain_paper(friends, served, row, elders, other)
                    self.assertIs(shows_never(friends, served, row, other, elders=elders), wanted)
                    self.assertFalse(wanted and found)
                    seen[wanted] += 1
        self.assertGreater(min(seen.values()), 100)

    def test_as_many_as_may_be(self):
        for friends, served, row, elders, _ in itertools.islice(lines_of_many(), 1, None, 4):
            word, thing = history_of(friends, served, row, elders=elders)
            self.assert_shown(word == "none", thing, friends, served, row, elders)
        friends, served, row, elders = done_by_chance(1, 24, 0.12, 4)
        line = served + row[::-1]
        elders = tuple(who for who in line if who in elders)
        word, thing = history_of(friends, served, row[::-1], elders=elders)
        self.assertEqual(word, "none")
        self.assert_shown(True, thing, friends, served, row[::-1], elders)
        self.assert_shown(False, thing, friends, served, row[::-1], ())

    def test_arguments(self):
        self.assert_arguments(shows_never, "(friends, served, row, thing, *, elders=())")


def all_papers(line, whos):
    """Each list of triples of these, whatever the words and the others."""
    choices = []
    for who in whos:
        others = [other for other in line if other != who]
        tuples = list(itertools.permutations(others, 1)) + list(itertools.permutations(others, 2))
        choices.append([(who, word, some) for word in WORDS for some in tuples])
    return map(list, itertools.product(*choices))


if __name__ == "__main__":
    unittest.main()
