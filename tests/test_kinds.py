"""Whole numbers, bounded ones, and names [2], [11]."""

import unittest

from latestturn.hours import is_name, is_number, is_whole
from tests.helper import NO_NAMES, NO_NUMBERS


class WholeNumbers(unittest.TestCase):
    def test_ints_are_whole(self):
        for thing in (0, 1, -1, 7, 20, 10 ** 5, -10 ** 5, 10 ** 40, -10 ** 40, 10 ** 5000):
            self.assertIs(is_whole(thing), True)

    def test_all_else_is_not(self):
        for thing in NO_NUMBERS:
            self.assertIs(is_whole(thing), False)


class BoundedNumbers(unittest.TestCase):
    def test_both_bounds_included(self):
        for low, high in ((0, 0), (1, 20), (-3, 4), (0, 10 ** 5), (-10 ** 30, 10 ** 30)):
            for thing, told in ((low - 1, False), (low, True), (high, True), (high + 1, False)):
                self.assertIs(is_number(thing, low, high), told)

    def test_every_number_of_a_small_span(self):
        for thing in range(-6, 7):
            for low in range(-4, 5):
                for high in range(-4, 5):
                    self.assertIs(is_number(thing, low, high), thing in range(low, high + 1))

    def test_high_below_low_lets_nothing_by(self):
        for thing in (4, 5, 6):
            self.assertIs(is_number(thing, 6, 4), False)

    def test_other_things_are_none(self):
        for thing in NO_NUMBERS:
            self.assertIs(is_number(thing, -10, 10), False)
            self.assertIs(is_number(thing, 1, 1), False)


class Names(unittest.TestCase):
    def test_names(self):
        for thing in ("a", "z", "m", "ann", "bo", "a0", "a9", "z12345", "abcdefgh", "a1234567", "zzzzzzzz", "b2b"):
            self.assertIs(is_name(thing), True, thing)

    def test_no_names(self):
        for place, thing in enumerate(NO_NAMES):
            self.assertIs(is_name(thing), False, place)

    def test_eight_signs_and_nine(self):
        for many in range(1, 20):
            self.assertIs(is_name("a" * many), many <= 8)
            self.assertIs(is_name("a" + "7" * (many - 1)), many <= 8)

    def test_every_sign_first_alone_and_later(self):
        letters = [chr(code) for code in range(ord("a"), ord("z") + 1)]
        figures = [chr(code) for code in range(ord("0"), ord("9") + 1)]
        for code in range(0x500):
            sign = chr(code)
            self.assertIs(is_name(sign), sign in letters, code)
            self.assertIs(is_name(sign + "a"), sign in letters, code)
            self.assertIs(is_name("a" + sign), sign in letters + figures, code)
            self.assertIs(is_name("a" + sign + "b"), sign in letters + figures, code)


if __name__ == "__main__":
    unittest.main()
