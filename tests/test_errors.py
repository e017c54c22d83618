"""The error classes [6], and the interface of latestturn/errors.py."""

import unittest

from latestturn import errors
from tests.helper import ERROR_NAMES, FIELDS, Odd

MADE_WITH = {"NoBreak": ("first", "last"), "NoCounter": ("turn",)}
for each in ("Doubled", "Taken", "NoTicket", "NotBegun", "NoBooking", "NotKept"):
    MADE_WITH[each] = ("name",)
WITH_TEXT = ("NoName", "NoNumber", "NoHours", "NoLine", "TooMany")


class ErrorClasses(unittest.TestCase):
    def test_hall_error_is_a_value_error(self):
        self.assertEqual(errors.HallError.__bases__, (ValueError,))

    def test_each_stands_straight_under_hall_error(self):
        for name in ERROR_NAMES:
            self.assertEqual(getattr(errors, name).__bases__, (errors.HallError,), name)

    def test_none_stands_under_another(self):
        for name in ERROR_NAMES:
            for other in ERROR_NAMES:
                below = issubclass(getattr(errors, name), getattr(errors, other))
                self.assertEqual(below, name == other, (name, other))

    def test_all_names_are_looked_at(self):
        self.assertEqual(sorted(ERROR_NAMES), sorted(list(MADE_WITH) + list(WITH_TEXT)))


class ErrorFields(unittest.TestCase):
    def test_made_with_one_text(self):
        for name in WITH_TEXT + ("HallError",):
            made = getattr(errors, name)("some words")
            self.assertIsInstance(made, errors.HallError)
            for field in FIELDS:
                self.assertFalse(hasattr(made, field), (name, field))

    def test_fields_in_their_order(self):
        for name, fields in MADE_WITH.items():
            handed = [f"thing{number}" for number in range(len(fields))]
            made = getattr(errors, name)(*handed)
            self.assertEqual([getattr(made, field) for field in fields], handed, name)
            for field in FIELDS:
                self.assertEqual(hasattr(made, field), field in fields, (name, field))

    def test_numbers_stay_numbers(self):
        made = errors.NoBreak(3, 7)
        self.assertEqual((made.first, made.last), (3, 7))
        self.assertEqual(errors.NoCounter(0).turn, 0)

    def test_any_thing_may_be_the_name(self):
        for thing in (None, 10 ** 5000, Odd(), ["ann"]):
            self.assertIs(errors.NoTicket(thing).name, thing)

    def test_taken_as_any_of_its_kinds(self):
        for kind in (errors.NoBreak, errors.HallError, ValueError):
            with self.assertRaises(kind):
                raise errors.NoBreak(1, 2)


if __name__ == "__main__":
    unittest.main()
