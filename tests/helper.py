"""What the tests share: asking for a refusal, and things of every kind."""

import unittest
from unittest import mock

from latestturn import errors

ERROR_NAMES = [
    "NoName", "NoNumber", "NoHours", "NoLine", "TooMany", "Doubled", "Taken", "NoTicket",
    "NotBegun", "NoBooking", "NotKept", "NoBreak", "NoCounter",
]

FIELDS = ("name", "first", "last", "turn")


class Odd:
    """A thing that can be neither compared, written nor kept in a dict."""

    def __eq__(self, other):
        raise RuntimeError("not to be compared")

    __hash__ = None

    def __repr__(self):
        raise RuntimeError("not to be written")


def nested_list(depth):
    nested = []
    for _ in range(depth):
        nested = [nested]
    return nested


NO_NUMBERS = [True, False, None, 1.0, 1.5, float("nan"), "1", "", b"1", [1], (1,), {1: 1}, {1}, int, Odd(), mock.ANY]

NO_NAMES = [
    "", "1", "1a", "9ann", "A", "Ann", "aNN", "annE", "ann bo", " ann", "ann ", "a_b", "a-b", "_a", "a.", "a\n", "\na",
    "a\t", "a\0", "\u00e9", "a\u00e9", "\u0430nn", "a\u0661", "a\u00b2", "\u00aa", "\uff41", "a\uff11", "{", "`", "a{",
    "a`", "a/", "a:", "abcdefghi", "a12345678", "a" * 4000,
    None, True, False, 0, 1, 7, -1, 10 ** 5000, 1.5, b"ann", b"a", ["a"], ["ann"], ("a",), ("ann", 1), {"a": 1}, {"a"},
    str, len, Odd(), mock.ANY, nested_list(5000),
]


class RefusalCase(unittest.TestCase):
    def refusal(self, error_name, call, *handed):
        """The refusal of that very class, straight under HallError, that the call meets."""
        wanted = getattr(errors, error_name)
        try:
            call(*handed)
        except errors.HallError as refused:
            self.assertIs(type(refused), wanted)
            self.assertIsInstance(refused, ValueError)
            return refused
        self.fail(f"{error_name} was due")

    def refuses(self, error_name, call, *handed, **fields):
        """Like refusal; and the error has the fields that are told here, and no others."""
        refused = self.refusal(error_name, call, *handed)
        for field in FIELDS:
            if field not in fields:
                self.assertFalse(hasattr(refused, field), f"{error_name} has {field}")
            elif isinstance(fields[field], (int, str)):
                self.assertEqual(getattr(refused, field), fields[field])
                self.assertIs(type(getattr(refused, field)), type(fields[field]))
            else:
                self.assertIs(getattr(refused, field), fields[field])
