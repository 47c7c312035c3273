"""The refusals: their classes, bases and fields."""

import unittest

from edgeshop import errors
from tests.samples import deep

# Each with its base, and its field where it has one.
ALL = (
    (errors.BadStock, ValueError, "place"),
    (errors.BadHistory, ValueError, "place"),
    (errors.BadText, ValueError, "row"),
    (errors.BadPaper, ValueError, "place"),
    (errors.BadQuestion, ValueError, None),
    (errors.BadDeed, ValueError, None),
    (errors.NoSuch, KeyError, "name"),
    (errors.NoEvent, IndexError, "number"),
    (errors.NoneServes, LookupError, "work"),
)


class Errors(unittest.TestCase):

    def test_each_stands_under_its_base_alone(self):
        for made, base, _ in ALL:
            with self.subTest(made=made):
                self.assertEqual(made.__bases__, (base,))
                self.assertEqual(made.__module__, "edgeshop.errors")

    def test_none_stands_under_another_one(self):
        for made, _, _ in ALL:
            for other, _, _ in ALL:
                if other is not made:
                    self.assertFalse(issubclass(made, other), (made, other))

    def test_none_serves_is_no_wrong_key_and_no_wrong_index(self):
        self.assertFalse(issubclass(errors.NoneServes, (KeyError, IndexError)))

    def test_fields_are_what_was_handed_in(self):
        for made, _, field in ALL:
            if field is not None:
                for thing in (("kind", 0), -1, None, ["rip"], deep(), 10 ** 5000):
                    self.assertIs(getattr(made(thing), field), thing)

    def test_fields_are_set_by_their_places_when_created(self):
        for made, _, field in ALL:
            if field is not None:
                self.assertEqual(vars(made("x")), {field: "x"})

    def test_those_without_a_field_are_made_of_a_text(self):
        self.assertEqual(str(errors.BadQuestion("no time")), "no time")
        self.assertEqual(str(errors.BadDeed("no deed")), "no deed")

    def test_each_can_be_shown_whatever_was_handed_in(self):
        for made, _, field in ALL:
            if field is not None:
                for thing in (deep(), 10 ** 5000):
                    self.assertLess(len(str(made(thing)) + repr(made(thing))), 200)


if __name__ == "__main__":
    unittest.main()
