"""[6] comings and servings, with [2] and [3] of them."""

import unittest

from asking import Asking, by_chance, plain_come
from letinrow.deeds import done
from letinrow.errors import BadDeed

FRIENDS = (("ann", "di"), ("ann", "eve"), ("bob", "cy"))
SERVE = ("serve",)


def come(who):
    return ("come", who)


NO_DEEDS = (
    (), ("come",), ("come", "zed", "yan"), ("come", "zed", 0), ("serve", "zed"), ("serve", "ann"), ("serve", None),
    ("serve", "serve"), ("come", "come", "come"),
    ("Come", "zed"), ("SERVE",), ("Serve",), ("go", "zed"), ("go",), ("", "zed"), ("",), ("zed", "come"), ("zed",),
    ("undo",), ("comes", "zed"), ("served",), (None,), (None, "zed"), (True, "zed"), (0,), (("serve",),),
    (("come", "zed"),), (("come",), "zed"),
    ("come", ""), ("come", "abcdefghi"), ("come", "Zed"), ("come", "z1"), ("come", "z z"), ("come", "-"),
    ("come", "\u00e9"), ("come", 7), ("come", None), ("come", True), ("come", ("zed",)), ("come", ["z", "e"]),
    "serve", "come", "come zed", "", None, True, False, 0, 5,
)


class Done(Asking):
    def test_no_deeds(self):
        self.assert_told(((), ()), done, FRIENDS, [])
        self.assert_told(((), ("cy", "ann")), done, FRIENDS, [], row=("cy", "ann"))
        self.assert_told(((), ()), done, (), [], row=())

    def test_comings_alone(self):
        deeds = [come("ann"), come("bob"), come("di"), come("cy"), come("eve")]
        self.assert_told(((), ("ann", "eve", "di", "bob", "cy")), done, FRIENDS, deeds)

    def test_one_comes_and_goes(self):
        self.assert_told((("ann",), ()), done, FRIENDS, [come("ann"), SERVE])

    def test_comings_and_servings(self):
        deeds = [come("ann"), come("bob"), come("di"), SERVE, come("eve"), come("cy"), SERVE, SERVE]
        self.assert_told((("ann", "di", "bob"), ("cy", "eve")), done, FRIENDS, deeds)

    def test_who_was_served_lets_nobody_in(self):
        deeds = [come("bob"), come("ann"), SERVE, come("cy")]
        self.assert_told((("bob",), ("ann", "cy")), done, FRIENDS, deeds)
        self.assert_told(((), ("bob", "cy", "ann")), done, FRIENDS, [deeds[0], deeds[1], deeds[3]])

    def test_a_row_that_stands_there(self):
        row = ("cy", "ann", "gus")
        self.assert_told((("cy",), ("ann", "di", "gus")), done, FRIENDS, [SERVE, come("di")], row=row)
        self.assert_told(((), ("cy", "bob", "ann", "gus")), done, FRIENDS, [come("bob")], row=row)
        deeds = [SERVE, SERVE, SERVE, come("bob")]
        self.assert_told((("cy", "ann", "gus"), ("bob",)), done, FRIENDS, deeds, row=row)

    def test_a_row_that_can_not_have_come_so(self):
        friends = (("ann", "bob"), ("cy", "di"))
        row = ("ann", "cy", "bob", "di")
        deeds = [come("eve"), SERVE]
        self.assert_told((("ann",), ("cy", "bob", "di", "eve")), done, friends, deeds, row=row)

    def test_people_called_as_deeds_are(self):
        deeds = [come("serve"), come("come"), SERVE, come("ann")]
        self.assert_told((("serve",), ("come", "ann")), done, FRIENDS, deeds)
        self.assert_told(((), ("come", "serve")), done, FRIENDS, [come("come"), come("serve")])

    def test_no_deed(self):
        for deed in NO_DEEDS:
            self.assert_refused(BadDeed, {"number": 0}, done, FRIENDS, [deed])
            self.assert_refused(BadDeed, {"number": 0}, done, FRIENDS, [deed], row=("ann",))
            before = [come("ann"), come("bob")]
            self.assert_refused(BadDeed, {"number": 2}, done, FRIENDS, before + [deed, come("cy")])

    def test_who_is_there(self):
        self.assert_refused(BadDeed, {"number": 1}, done, FRIENDS, [come("ann"), come("ann")])
        deeds = [come("ann"), come("bob"), SERVE, come("cy"), come("bob")]
        self.assert_refused(BadDeed, {"number": 4}, done, FRIENDS, deeds)

    def test_who_was_there_at_first(self):
        for who in ("ann", "gus"):
            self.assert_refused(BadDeed, {"number": 0}, done, FRIENDS, [come(who)], row=("ann", "gus"))
        deeds = [come("bob"), SERVE, come("ann")]
        self.assert_refused(BadDeed, {"number": 2}, done, FRIENDS, deeds, row=("ann", "gus"))

    def test_who_was_served(self):
        self.assert_refused(BadDeed, {"number": 2}, done, FRIENDS, [come("ann"), SERVE, come("ann")])
        deeds = [come("ann"), come("bob"), SERVE, SERVE, come("cy"), come("ann")]
        self.assert_refused(BadDeed, {"number": 5}, done, FRIENDS, deeds)

    def test_a_bare_row_is_not_served(self):
        self.assert_refused(BadDeed, {"number": 0}, done, FRIENDS, [SERVE])
        self.assert_refused(BadDeed, {"number": 0}, done, FRIENDS, [SERVE, come("ann")])
        self.assert_refused(BadDeed, {"number": 2}, done, FRIENDS, [come("ann"), SERVE, SERVE])
        self.assert_refused(BadDeed, {"number": 1}, done, FRIENDS, [SERVE, SERVE], row=("ann",))

    def test_the_first_of_several(self):
        deeds = [come("ann"), come("ann"), ("go",), SERVE, SERVE]
        self.assert_refused(BadDeed, {"number": 1}, done, FRIENDS, deeds)
        deeds = [come("ann"), SERVE, SERVE, ("go",), come("ann")]
        self.assert_refused(BadDeed, {"number": 2}, done, FRIENDS, deeds)
        deeds = [("go",), SERVE, come("Ann")]
        self.assert_refused(BadDeed, {"number": 0}, done, FRIENDS, deeds)

    def test_one_by_one_not_all_that_are_no_deeds_first(self):
        deeds = [come("ann"), come("bob"), come("ann"), None]
        self.assert_refused(BadDeed, {"number": 2}, done, FRIENDS, deeds)

    def test_as_many_as_may_be(self):
        for seed in range(5):
            friends, people = by_chance(seed, 24, 0.15)
            row, comers = people[:4], people[4:]
            deeds, served, here = [], [], list(row)
            for number, who in enumerate(comers):
                deeds.append(come(who))
                here = plain_come(friends, here, who)
                if number // 2 * 2 == number:
                    deeds.append(SERVE)
                    served.append(here.pop(0))
            while here:
                deeds.append(SERVE)
                served.append(here.pop(0))
            for many in range(len(deeds) + 1):
                gone, left = done(friends, deeds[:many], row=row)
                self.assertEqual(gone, tuple(served[:len(gone)]))
                self.assertEqual(len(gone), deeds[:many].count(SERVE))
                self.assertEqual(len(gone) + len(left), 4 + many - deeds[:many].count(SERVE))
            self.assert_told((tuple(served), ()), done, friends, deeds, row=row)

    def test_sixty_deeds(self):
        people = ["q" + letter for letter in "abcdefghijklmnopqrstuvwxyz"] + ["ra", "rb", "rc", "rd"]
        deeds = []
        for who in people:
            deeds.extend([come(who), SERVE])
        self.assertEqual(len(deeds), 60)
        self.assert_told((tuple(people), ()), done, (), deeds)

    def test_arguments(self):
        self.assert_arguments(done, "(friends, deeds, *, row=())")


if __name__ == "__main__":
    unittest.main()
