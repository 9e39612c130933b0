"""The refusals: their bases, their fields."""

import unittest

from letinrow import errors

FIELDS = {
    "BadDeed": (ValueError, ("number",)),
    "BadSight": (ValueError, ("number",)),
    "BadDay": (ValueError, ("day", "deed")),
    "BadText": (ValueError, ("text",)),
    "BadRow": (ValueError, ("number",)),
    "Astray": (ValueError, ("who",)),
    "Apart": (ValueError, ()),
    "NoOrder": (LookupError, ("number",)),
    "NoDeed": (LookupError, ("many",)),
    "Strange": (LookupError, ("pair",)),
    "Gone": (LookupError, ("who",)),
    "Here": (RuntimeError, ("who",)),
    "Known": (RuntimeError, ("pair",)),
    "Bare": (RuntimeError, ()),
    "Stuck": (RuntimeError, ("left",)),
}
VALUES = {
    "number": 7, "day": 2, "deed": 5, "text": "a--b", "who": "ann",
    "many": -3, "pair": ("ann", "bob"), "left": ("ann", "cy", "bob"),
}


class Errors(unittest.TestCase):
    def test_these_fifteen_and_no_more(self):
        classes = [name for name, thing in vars(errors).items() if isinstance(thing, type)]
        self.assertEqual(sorted(classes), sorted(FIELDS))
        self.assertEqual(len(classes), 15)

    def test_straight_under_the_class_told(self):
        for name, (base, _) in FIELDS.items():
            self.assertEqual(getattr(errors, name).__bases__, (base,), name)

    def test_fields_by_places(self):
        for name, (_, fields) in FIELDS.items():
            made = getattr(errors, name)(*[VALUES[field] for field in fields])
            self.assert_fields(made, fields)

    def test_fields_by_names(self):
        for name, (_, fields) in FIELDS.items():
            made = getattr(errors, name)(**{field: VALUES[field] for field in fields})
            self.assert_fields(made, fields)

    def assert_fields(self, made, fields):
        self.assertEqual(vars(made), {field: VALUES[field] for field in fields})
        self.assertIsInstance(str(made), str)

    def test_neither_fewer_fields_nor_more(self):
        for name, (_, fields) in FIELDS.items():
            made = getattr(errors, name)
            with self.assertRaises(TypeError):
                made(*[VALUES[field] for field in fields], "more")
            if fields:
                with self.assertRaises(TypeError):
                    made()

    def test_caught_by_their_bases(self):
        for name, (base, fields) in FIELDS.items():
            with self.assertRaises(base):
                raise getattr(errors, name)(*[VALUES[field] for field in fields])

    def test_a_list_handed_in_for_a_tuple_is_not_kept(self):
        for name, field in (("Strange", "pair"), ("Known", "pair"), ("Stuck", "left")):
            handed_in = list(VALUES[field])
            made = getattr(errors, name)(handed_in)
            handed_in.clear()
            self.assertEqual(getattr(made, field), VALUES[field])


if __name__ == "__main__":
    unittest.main()
