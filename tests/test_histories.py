"""[13] histories, who was never in, times, and the papers of [14] told, with [1], [2] and [3] of them."""

import functools
import itertools
import random
import unittest

from asking import NAMES, Asking, all_friends, befriended, by_chance, plain_come, plain_loose, plain_orders
from letinrow.errors import Astray
from letinrow.histories import history_of, never_in, times_of
from letinrow.orders import order_of

SERVE = ("serve",)
FRIENDS = (("ann", "di"), ("ann", "eve"), ("bob", "cy"))


def come(who):
    return ("come", who)


def plain_done(friends, deeds, elders):
    """The pair of lists of who was served and of the row, each deed done as a person would."""
    served, row = [], list(elders)
    for deed in deeds:
        if deed == SERVE:
            served.append(row.pop(0))
        else:
            word, who = deed
            assert word == "come" and who not in served + row
            row = plain_come(friends, row, who)
    return served, row


@functools.lru_cache(maxsize=None)
def all_histories(friends, elders, newcomers):
    """A dict of pairs (served, row) to the list of all that can be done from the elders' row to come to them."""
    found = {}

    def do(deeds, served, row, coming):
        if not coming:
            found.setdefault((served, tuple(row)), []).append(deeds)
        if row:
            do(deeds + [SERVE], served + (row[0],), row[1:], coming)
        for who in coming:
            do(deeds + [come(who)], served, plain_come(friends, row, who), [other for other in coming if other != who])

    do([], (), list(elders), list(newcomers))
    return found


def lines(many, step=1):
    """FRIENDS, served, row, elders and all histories of each line of so many people, whatever the friends."""
    # The names are no matter: one line is enough.
    line = NAMES[:many]
    for friends in itertools.islice(all_friends(line), 0, None, step):
        for stays in itertools.product((True, False), repeat=many):
            elders = tuple(who for who, stay in zip(line, stays) if stay)
            found = all_histories(friends, elders, tuple(who for who in line if who not in elders))
            for at in range(many + 1):
                yield friends, line[:at], line[at:], elders, found.get((line[:at], line[at:]), [])


def plain_never(friends, served, row, elders, choose):
    """Those left when choose says which loose newcomer goes."""
    served, row = list(served), list(row)
    while True:
        can_go = [who for who in plain_loose(friends, row) if who not in elders]
        if can_go:
            row.remove(choose(can_go))
        elif served:
            row.insert(0, served.pop())
        else:
            return tuple(who for who in row if who not in elders)


def plain_paper(friends, served, row, elders, thing):
    """Whether a thing is a paper of none, by the words of [14]."""
    line = tuple(served) + tuple(row)
    if type(thing) is not list or not thing:
        return False
    if not all(type(part) is tuple and len(part) == 3 for part in thing):
        return False
    whos = [part[0] for part in thing]
    if any(whos.count(who) > 1 or who not in line or who in elders for who in whos):
        return False
    there = whos + list(elders)
    return all(plain_clause(friends, line, tuple(served), there, *part) for part in thing)


def plain_clause(friends, line, served, there, who, word, others):
    if type(others) is not tuple or any(other not in there or other not in line for other in others):
        return False
    ahead, behind = line[:line.index(who)], line[line.index(who) + 1:]
    known = [other for other in ahead if befriended(friends, other, who)]
    if word == "friend":
        return len(others) == 1 and others[0] in behind and befriended(friends, who, others[0])
    if word == "behind":
        return not known and len(others) == 1 and others[0] in behind
    if word != "between" or not known or not others or others[0] not in ahead[ahead.index(known[-1]) + 1:]:
        return False
    if known[-1] in served:
        return len(others) == 2 and others[1] in behind
    return len(others) == 1


def done_by_chance(seed, many, chance, elders):
    """FRIENDS, served, row and elders of a line of so many, some of whom were served as chance had it."""
    friends, people = by_chance(seed, many, chance, strangers=3)
    dice = random.Random(seed + 50)
    row, coming, served = people[:elders], people[elders:], []
    while coming:
        if row and dice.random() < 0.3:
            served.append(row.pop(0))
        else:
            row = plain_come(friends, row, coming.pop())
    return friends, tuple(served), tuple(row), tuple(people[:elders])


def lines_of_many():
    """Lines of 24 people, such as have a history, and others."""
    for seed, chance, elders in itertools.product(range(3), (0, 0.05, 0.12, 0.3, 1), (0, 4)):
        friends, served, row, elders = done_by_chance(seed, 24, chance, elders)
        yield friends, served, row, elders, True
        line = list(served + row)
        newcomers = [at for at, who in enumerate(line) if who not in elders]
        at, to = random.Random(seed).sample(newcomers, 2)
        line[at], line[to] = line[to], line[at]
        yield friends, tuple(line[:len(served)]), tuple(line[len(served):]), elders, None


class Histories(Asking):
    def assert_history(self, friends, served, row, elders, told):
        self.assertIs(type(told), tuple)
        word, deeds = told
        self.assertEqual(word, "deeds")
        self.assertIs(type(deeds), list)
        self.assertTrue(all(type(deed) is tuple for deed in deeds))
        self.assertEqual(plain_done(friends, deeds, elders), (list(served), list(row)))

    def assert_paper(self, friends, served, row, elders, told):
        self.assertIs(type(told), tuple)
        word, paper = told
        self.assertEqual(word, "none")
        self.assertTrue(plain_paper(friends, served, row, elders, paper), (friends, served, row, elders, paper))
        never = never_in(friends, served, row, elders=elders)
        self.assertEqual(tuple(who for who, _, _ in paper), never)
        line = tuple(served) + tuple(row)
        self.assertEqual(sorted(never, key=line.index), list(never))

    def assert_asked(self, has_one, friends, served, row, **elders):
        """In each way of asking: a history, or a paper."""
        told = history_of(friends, served, row, **elders)
        judge = self.assert_history if has_one else self.assert_paper
        judge(friends, served, row, elders.get("elders", ()), told)
        self.assert_told((told[0], list(told[1])), history_of, friends, served, row, **elders)
        left = () if has_one else tuple(part[0] for part in told[1])
        self.assert_told(left, never_in, friends, served, row, **elders)

    def test_nobody_at_all(self):
        self.assert_told(("deeds", []), history_of, (), (), ())
        self.assert_told(("deeds", []), history_of, FRIENDS, (), (), elders=())
        self.assert_told((), never_in, FRIENDS, (), ())

    def test_nobody_served(self):
        row = ("ann", "eve", "di", "bob", "cy")
        self.assert_asked(True, FRIENDS, (), row)
        self.assert_asked(True, FRIENDS, (), row, elders=())
        self.assert_asked(True, FRIENDS, (), row, elders=("ann", "bob"))
        self.assert_asked(False, (("ann", "cy"),), (), ("ann", "bob", "cy"))

    def test_nobody_served_and_no_elders_just_where_there_is_an_order(self):
        for friends in all_friends(NAMES[:4]):
            for row in itertools.permutations(NAMES[:4]):
                told = history_of(friends, (), row)
                self.assertEqual(told[0] == "deeds", order_of(friends, row)[0] == "order")
                if told[0] == "deeds":
                    self.assertIn([who for _, who in told[1]], plain_orders(friends, row))

    def test_all_served(self):
        self.assert_asked(True, FRIENDS, ("ann", "eve", "di", "bob", "cy"), ())
        self.assert_asked(True, (("ann", "cy"),), ("ann", "bob", "cy"), ())
        friends = tuple(itertools.combinations(NAMES[:4], 2))
        self.assert_asked(True, friends, ("di", "ann", "cy", "bob"), ())

    def test_some_served(self):
        # Behind ann, who was served, cy can have come to the end; in a row of all three it can't.
        friends = (("ann", "cy"),)
        self.assert_asked(True, friends, ("ann",), ("bob", "cy"))
        self.assert_asked(False, friends, (), ("ann", "bob", "cy"))
        self.assert_asked(False, friends, ("di",), ("ann", "bob", "cy", "eve"))

    def test_all_elders(self):
        line = ("ann", "bob", "cy", "di")
        for friends in itertools.islice(all_friends(line), 0, None, 7):
            for many in range(5):
                wanted = ("deeds", [SERVE] * many)
                self.assert_told(wanted, history_of, friends, line[:many], line[many:], elders=line)
                self.assert_told((), never_in, friends, line[:many], line[many:], elders=line)

    def test_some_elders(self):
        # With ann and cy there at first bob, nobody's friend, can't have come between.
        self.assert_asked(False, (), (), ("ann", "bob", "cy"), elders=("ann", "cy"))
        self.assert_told(("none", [("bob", "behind", ("cy",))]), history_of, (), (), ("ann", "bob", "cy"),
                         elders=("ann", "cy"))
        self.assert_asked(True, (("ann", "bob"),), (), ("ann", "bob", "cy"), elders=("ann", "cy"))
        self.assert_asked(False, (("ann", "bob"),), ("ann",), ("bob", "cy"), elders=("cy",))
        self.assert_asked(True, (("ann", "bob"),), ("ann",), ("bob", "cy"), elders=("ann", "cy"))
        self.assert_asked(True, (("ann", "bob"),), ("ann",), ("bob", "cy"), elders=())

    def test_each_word(self):
        told = history_of((("ann", "bob"),), (), ("ann", "bob"), elders=("bob",))
        self.assertEqual(told, ("none", [("ann", "friend", ("bob",))]))
        told = history_of((), (), ("ann", "bob"), elders=("bob",))
        self.assertEqual(told, ("none", [("ann", "behind", ("bob",))]))
        friends = (("ann", "cy"),)
        told = history_of(friends, (), ("ann", "bob", "cy"), elders=("ann", "bob"))
        self.assertEqual(told, ("none", [("cy", "between", ("bob",))]))
        told = history_of(friends, ("ann",), ("bob", "cy", "di"), elders=("ann", "bob", "di"))
        self.assertEqual(told, ("none", [("cy", "between", ("bob", "di"))]))
        told = history_of(friends, ("ann", "bob", "cy"), ("di",), elders=("ann", "bob", "di"))
        self.assertEqual(told, ("none", [("cy", "between", ("bob", "di"))]))

    def test_lines_of_few_people_against_all_that_can_be_done(self):
        words = set()
        for many, step in ((0, 1), (1, 1), (2, 1), (3, 1), (4, 1), (5, 97)):
            for friends, served, row, elders, found in lines(many, step):
                told = history_of(friends, served, row, elders=elders)
                if found:
                    self.assertEqual(told[0], "deeds")
                    self.assertIn(told[1], found)
                    self.assertEqual(never_in(friends, served, row, elders=elders), ())
                else:
                    self.assert_paper(friends, served, row, elders, told)
                    words |= {(word, len(others)) for _, word, others in told[1]}
        self.assertEqual(words, {("friend", 1), ("between", 1), ("between", 2), ("behind", 1)})

    def test_as_many_as_may_be(self):
        told = []
        for friends, served, row, elders, has_one in lines_of_many():
            self.assertEqual(len(served + row), 24)
            told.append(history_of(friends, served, row, elders=elders))
            if has_one or told[-1][0] == "deeds":
                self.assert_history(friends, served, row, elders, told[-1])
            else:
                self.assert_paper(friends, served, row, elders, told[-1])
        self.assertEqual({word for word, _ in told}, {"deeds", "none"})

    def test_as_many_as_may_be_in_each_way_of_asking(self):
        friends, served, row, elders = done_by_chance(1, 24, 0.12, 4)
        self.assert_asked(True, friends, served, row, elders=elders)
        row = row[::-1]
        elders = tuple(who for who in served + row if who in elders)
        self.assert_asked(False, friends, served, row, elders=elders)

    def test_arguments(self):
        self.assert_arguments(history_of, "(friends, served, row, *, elders=())")


class NeverIn(Asking):
    def test_by_hand(self):
        friends = (("ann", "cy"), ("bob", "di"))
        row = ("ann", "bob", "cy", "di")
        self.assert_told(row, never_in, friends, (), row)
        self.assert_told(row, never_in, friends, (), row + ("eve",))
        self.assert_told(row, never_in, friends, (), row, elders=())
        # bob, still there, lets di in, between whom cy stands, till bob was served, too.
        self.assert_told(row, never_in, friends, row[:1], row[1:])
        self.assert_told((), never_in, friends, row[:2], row[2:])
        self.assert_told((), never_in, friends, row, ())

    def test_elders_never_go(self):
        friends = (("ann", "cy"), ("bob", "di"))
        row = ("ann", "bob", "cy", "di")
        self.assert_told(("ann", "cy", "di"), never_in, friends, (), row, elders=("bob",))
        self.assert_told(("cy",), never_in, friends, (), row, elders=("ann", "bob", "di"))
        self.assert_told(("ann", "bob", "cy"), never_in, (), ("ann",), ("bob", "cy", "di"), elders=("di",))
        self.assert_told((), never_in, (), ("ann",), ("bob", "cy", "di"), elders=("ann",))
        self.assert_told(("ann",), never_in, (), ("ann",), ("bob", "cy", "di"), elders=("bob",))

    def test_the_same_whichever_go_first(self):
        dice = random.Random(11)
        for many, step in ((2, 1), (3, 1), (4, 3)):
            for friends, served, row, elders, found in lines(many, step):
                told = never_in(friends, served, row, elders=elders)
                self.assertEqual(not told, bool(found))
                for choose in (min, max, dice.choice, lambda names: names[0]):
                    self.assertEqual(plain_never(friends, served, row, elders, choose), told)

    def test_as_many_as_may_be(self):
        dice = random.Random(12)
        left = 0
        for friends, served, row, elders, has_one in lines_of_many():
            told = never_in(friends, served, row, elders=elders)
            left += len(told) > 0
            self.assertFalse(has_one and told)
            for choose in (min, dice.choice, dice.choice):
                self.assertEqual(plain_never(friends, served, row, elders, choose), told)
        self.assertGreater(left, 3)

    def test_arguments(self):
        self.assert_arguments(never_in, "(friends, served, row, *, elders=())")


def how_many_served(history, who):
    return history[:history.index(come(who))].count(SERVE)


class Times(Asking):
    def test_by_hand(self):
        self.assert_told([0], times_of, (), (), ("ann",), "ann")
        self.assert_told([0], times_of, (), ("ann",), (), "ann")
        self.assert_told([0, 1], times_of, (), ("ann",), ("bob",), "bob")
        self.assert_told([0, 1], times_of, (), ("ann",), ("bob",), "bob", elders=("ann",))
        self.assert_told([0, 1, 2], times_of, (), ("ann", "bob"), ("cy",), "cy", elders=())
        self.assert_told([0, 1], times_of, (), ("ann", "bob"), ("cy",), "bob")
        self.assert_told([0], times_of, (), ("ann", "bob"), ("cy",), "ann")
        # Let in by ann while she was there; somebody else stands behind.
        self.assert_told([0], times_of, (("ann", "bob"),), ("ann",), ("bob", "cy"), "bob", elders=("ann", "cy"))
        # With bob there at first cy came when ann was served.
        self.assert_told([1], times_of, (("ann", "cy"),), ("ann",), ("bob", "cy"), "cy", elders=("ann", "bob"))
        self.assert_told([1, 2], times_of, (("ann", "cy"),), ("ann", "bob"), ("cy",), "cy", elders=("ann", "bob"))

    def test_without_a_history(self):
        friends, row = (("ann", "cy"),), ("ann", "bob", "cy")
        for who in row:
            self.assert_told([], times_of, friends, (), row, who)
            self.assert_told([], times_of, friends, ("di",), row, who)
        self.assert_told([], times_of, friends, ("di",), row, "di")

    def test_lines_of_few_people_against_all_histories(self):
        for many, step in ((1, 1), (2, 1), (3, 1), (4, 1), (5, 97)):
            for friends, served, row, elders, found in lines(many, step):
                for who in served + row:
                    if who not in elders:
                        wanted = sorted({how_many_served(history, who) for history in found})
                        self.assertEqual(times_of(friends, served, row, who, elders=elders), wanted)

    def test_as_many_as_may_be(self):
        for friends, served, row, elders, has_one in itertools.islice(lines_of_many(), 0, None, 3):
            word, thing = history_of(friends, served, row, elders=elders)
            for who in (served + row)[::5]:
                if who not in elders:
                    told = times_of(friends, served, row, who, elders=elders)
                    self.assertEqual(told, sorted(set(told)))
                    self.assertEqual(bool(told), word == "deeds")
                    self.assertTrue(word == "none" or how_many_served(thing, who) in told)
                    self.assertTrue(all(0 <= time <= len(served) for time in told))

    def test_as_many_as_may_be_in_each_way_of_asking(self):
        people = tuple("q" + letter for letter in "xwvutsrqponmlkjihgfedcba")
        self.assertEqual(len(people), 24)
        # Nobody is a friend: who comes, comes to the end, when any of those ahead were served.
        for at in (0, 7, 15, 20):
            wanted = list(range(min(at, 16) + 1))
            self.assert_told(wanted, times_of, (), people[:16], people[16:], people[at])

    def test_arguments(self):
        self.assert_arguments(times_of, "(friends, served, row, who, *, elders=())")


class Strays(Asking):
    def assert_astray(self, who, friends, served, row, elders):
        self.assert_refused(Astray, {"who": who}, history_of, friends, served, row, elders=elders)
        self.assert_refused(Astray, {"who": who}, never_in, friends, served, row, elders=elders)
        newcomer = [other for other in tuple(served) + tuple(row) if other not in elders][0]
        self.assert_refused(Astray, {"who": who}, times_of, friends, served, row, newcomer, elders=elders)

    def test_not_in_the_line(self):
        self.assert_astray("zed", FRIENDS, ("ann",), ("bob", "cy"), ("zed",))
        self.assert_astray("zed", FRIENDS, ("ann",), ("bob", "cy"), ("ann", "zed"))
        self.assert_astray("zed", FRIENDS, ("ann",), ("bob", "cy"), ("zed", "ann"))
        self.assert_astray("zed", FRIENDS, ("ann",), ("bob", "cy"), ("zed", "yan"))
        self.assert_astray("yan", FRIENDS, ("ann",), ("bob", "cy"), ("ann", "yan", "bob", "zed"))

    def test_not_in_the_lines_order(self):
        self.assert_astray("ann", FRIENDS, ("ann",), ("bob", "cy"), ("bob", "ann"))
        self.assert_astray("bob", FRIENDS, (), ("ann", "bob", "cy"), ("cy", "bob"))
        self.assert_astray("ann", FRIENDS, ("ann", "bob"), ("cy",), ("bob", "ann"))
        self.assert_astray("bob", FRIENDS, ("ann",), ("bob", "cy", "di"), ("ann", "cy", "bob"))

    def test_the_first_of_several(self):
        self.assert_astray("bob", (), ("ann",), ("bob", "cy", "di"), ("cy", "bob", "ann"))
        self.assert_astray("ann", (), ("ann",), ("bob", "cy", "di"), ("cy", "ann", "bob"))
        self.assert_astray("bob", (), ("ann",), ("bob", "cy", "di"), ("cy", "bob", "zed"))
        self.assert_astray("zed", (), ("ann",), ("bob", "cy", "di"), ("cy", "zed", "bob"))
        self.assert_astray("zed", (), ("ann",), ("bob", "cy", "di"), ("zed", "cy", "bob"))

    def test_ahead_of_any_that_is_ahead_of_it_in_elders(self):
        # bob stands behind ann, the one right ahead of it in elders but one, yet ahead of cy.
        self.assert_astray("bob", (), ("ann",), ("bob", "cy", "di"), ("ann", "cy", "bob"))
        self.assert_astray("cy", (), ("ann", "bob", "cy"), ("di", "eve"), ("ann", "di", "cy", "bob"))

    def test_each_elders_of_few_people(self):
        line = ("ann", "bob", "cy", "di")
        for many in range(4):
            for elders in itertools.permutations(line[:3] + ("zed",), many):
                wanted = None
                for at, who in enumerate(elders):
                    if who not in line or any(line.index(who) < line.index(one) for one in elders[:at]):
                        wanted = who
                        break
                for served in (0, 2, 4):
                    asks = ((history_of, []), (never_in, []), (times_of, ["di"]))
                    for function, more in asks:
                        try:
                            function((), line[:served], line[served:], *more, elders=elders)
                            told = None
                        except Astray as error:
                            told = error.who
                        self.assertEqual(told, wanted)

    def test_also_where_there_is_a_history(self):
        self.assert_astray("zed", (), (), ("ann",), ("zed",))
        self.assertTrue(issubclass(Astray, ValueError))

    def test_a_row_of_the_same_people_is_no_matter(self):
        self.assert_told(("deeds", []), history_of, (), (), ("bob", "ann"), elders=("bob", "ann"))


if __name__ == "__main__":
    unittest.main()
