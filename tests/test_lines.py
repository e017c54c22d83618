"""Texts: points [101] to [103], and of them what points 2 to 6 say."""

import re
import unittest

from latestturn.lines import number_in, queue_in, queue_text, rows_in, rows_text
from tests.helper import NO_NAMES, Rule, SharingCase, frozen

# Every sign from the blank to `~`, those that lines may have beside, and some that look like figures or blanks.
SIGNS = [chr(number) for number in range(32, 127)] + ["\t", "\n", "\r", "\0", "\u00a0", "\u00b2", "\u0661", "\uff11",
                                                      "\u00e9", "\u2028"]

NO_FIGURES = [
    "", " ", "00", "01", "007", "000000", "0000000", "1000000", "9999999", "1" * 4000, "-", "-1", "+1", "- 1", "1-",
    "1.", "1.0", "1e3", "0x1", "0b1", "1_0", "1,0", " 1", "1 ", "1\n", "\n1", "1\t", "\t1", "1 1", "a", "1a", "a1",
    "one", "\u0661", "\uff11", "1\u0661", "\u00b2", "1\u00b2", "\u2460", "None", "True", "O", "l", "1:", ":1", "1;",
    "-0",
]

ROWS = [
    ([], "-"),
    ([(7, ["ann", "bo"]), (8, [])], "7: ann bo; 8:"),
    ([(0, [])], "0:"),
    ([(0, ["a"])], "0: a"),
    ([(999999, ["a1234567", "z9"])], "999999: a1234567 z9"),
    ([(3, []), (3, []), (2, [])], "3:; 3:; 2:"),
    ([(5, ["ann", "ann"]), (0, ["ann"]), (10, ["bo", "cy", "dee"])], "5: ann ann; 0: ann; 10: bo cy dee"),
]

QUEUES = [
    ([], "-"),
    ([("ann", 3)], "ann 3"),
    ([("ann", 3), ("bo", 0)], "ann 3, bo 0"),
    ([("a", 999999), ("a", 1), ("a1234567", 100)], "a 999999, a 1, a1234567 100"),
]


def changed_texts(text, signs=SIGNS):
    """All texts with one sign more, one fewer or another one."""
    for place in range(len(text) + 1):
        for sign in signs:
            yield text[:place] + sign + text[place:]
            if place < len(text):
                yield text[:place] + sign + text[place + 1:]
        if place < len(text):
            yield text[:place] + text[place + 1:]


# The texts of the document, told another way.
FIGURES = r"(?:0|[1-9][0-9]{0,5})"
NAME = r"[a-z][a-z0-9]{0,7}"
ROW = rf"{FIGURES}:(?: {NAME})*"
TICKET = rf"{NAME} {FIGURES}"
ROWS_FORM = rf"-|{ROW}(?:; {ROW})*"
QUEUE_FORM = rf"-|{TICKET}(?:, {TICKET})*"


class Figures(SharingCase):
    def test_101_figures(self):
        for text, number in (("0", 0), ("1", 1), ("7", 7), ("10", 10), ("100", 100), ("12345", 12345),
                             ("999999", 999999), ("100000", 100000), ("505", 505)):
            self.assertEqual(number_in(text), number)
            self.assertIs(type(number_in(text)), int)

    def test_101_every_number_that_can_be_written(self):
        for number in list(range(1200)) + list(range(0, 10 ** 6, 997)) + [10 ** 6 - 1]:
            self.assertEqual(number_in(str(number)), number)

    def test_101_no_figures(self):
        for text in NO_FIGURES:
            self.refuses("NoLine", number_in, text)

    def test_101_one_sign_otherwise(self):
        for text in ("0", "7", "10", "305", "123456"):
            for other in changed_texts(text):
                if re.fullmatch(FIGURES, other):
                    self.assertEqual(number_in(other), int(other))
                else:
                    self.refuses("NoLine", number_in, other)


class Telling(SharingCase):
    def test_102_rows(self):
        for rows, text in ROWS:
            self.assertEqual(rows_text(rows), text)
            self.assertIs(type(rows_text(rows)), str)

    def test_102_queues(self):
        for queue, text in QUEUES:
            self.assertEqual(queue_text(queue), text)
            self.assertIs(type(queue_text(queue)), str)

    def test_102_very_many(self):
        names = [f"t{number}" for number in range(60)]
        rows = [(turn, names if turn % 1000 == 0 else []) for turn in range(4000)]
        text = rows_text(rows)
        self.assertEqual(len(text.split("; ")), 4000)
        self.assertEqual(rows_in(text), rows)
        queue = [(name, 999999) for name in names]
        self.assertEqual(queue_text(queue), ", ".join(f"{name} 999999" for name in names))
        self.assertEqual(queue_in(queue_text(queue)), queue)

    def test_2_what_is_told_is_not_changed(self):
        for rows, text in ROWS:
            self.shares_nothing(rows_text, lambda: ([(turn, list(names)) for turn, names in rows],))
        for queue, text in QUEUES:
            self.shares_nothing(queue_text, lambda: (list(queue),))


class Reading(SharingCase):
    def test_103_rows(self):
        for rows, text in ROWS:
            self.assertEqual(rows_in(text), rows)
            self.assertEqual(frozen(rows_in(text)), frozen(rows))

    def test_103_queues(self):
        for queue, text in QUEUES:
            self.assertEqual(frozen(queue_in(text)), frozen(queue))

    def test_103_what_was_told_is_read_again(self):
        rule = Rule(103)
        names = ["a", "ann", "bo", "cy1", "z9999999"]
        for times in range(300):
            rows = [(rule.one_of([rule.below(9), rule.below(10 ** 6)]),
                     [rule.one_of(names) for number in range(rule.below(5))])
                    for row in range(rule.below(6))]
            queue = [(rule.one_of(names), rule.below(10 ** 6)) for ticket in range(rule.below(6))]
            self.assertEqual(frozen(rows_in(rows_text(rows))), frozen(rows))
            self.assertEqual(frozen(queue_in(queue_text(queue))), frozen(queue))

    def test_103_no_rows(self):
        for text in ("", " ", "- ", " -", "--", "-;", "-; 7:", "7:; -", "7", "7 ann", "7 :", "7 : ann", ":", ": ann",
                     "ann", "7:ann", "7:  ann", "7: ann  bo", "7: ann ", "7: ", " 7:", "7::", "7: ann:", "7: ann; ",
                     "7: ann;", "; 7:", ";", "; ", "7:;8:", "7:;  8:", "7: ; 8:", "7:,8:", "7:, 8:", "7:; 8",
                     "7:; ; 8:", "7:;; 8:", "07:", "00:", "1000000:", "-1:", "+7:", "7.0:", "x:", "7: Ann", "7: 1a",
                     "7: a_b", "7: abcdefghi", "7: ann, bo", "7: ann;bo", "7: ann\tbo", "7:\tann", "7:\n8:", "7:\n",
                     "\n7:", "7: ann\n", "7: ann;\n8:", "7: ann;\t8:", "7: ann; 8:\n", "\t", "\n", "-\n", "-\t", "7: -",
                     "7:-", "ann 3", "7: ann 3"):
            self.refuses("NoLine", rows_in, text)

    def test_103_no_queue(self):
        for text in ("", " ", "- ", " -", "--", "-,", "-, ann 3", "ann 3, -", "ann", "ann ", "ann  3", " ann 3",
                     "ann 3 ", "ann 3,", "ann 3, ", ", ann 3", ",", ", ", "ann 3,bo 1", "ann 3,  bo 1", "ann 3 , bo 1",
                     "ann 3; bo 1", "ann 3,, bo 1", "ann 3, , bo 1", "ann 3 bo 1", "ann 03", "ann 00", "ann 1000000",
                     "ann -1", "ann +1", "ann 3.0", "ann x", "3 ann", "3", "Ann 3", "1a 3", "abcdefghi 3", "a_b 3",
                     "ann: 3", "ann\t3", "ann 3\n", "\nann 3", "ann 3,\nbo 1", "ann 3,\tbo 1", "ann 3\n, bo 1", "\t",
                     "\n", "-\n", "ann 3 3", "7:", "7: ann"):
            self.refuses("NoLine", queue_in, text)

    def test_103_no_names_where_one_ought_to_be(self):
        for thing in NO_NAMES:
            if isinstance(thing, str):
                self.refuses("NoLine", queue_in, f"{thing} 3")
                self.refuses("NoLine", queue_in, f"bo 1, {thing} 3")
                if thing not in ("ann bo",):
                    self.refuses("NoLine", rows_in, f"7: {thing}")
                    self.refuses("NoLine", rows_in, f"7: cy {thing} dee")

    def test_103_no_figures_where_some_ought_to_be(self):
        for text in NO_FIGURES:
            self.refuses("NoLine", queue_in, f"ann {text}")
            self.refuses("NoLine", queue_in, f"ann {text}, bo 1")
            self.refuses("NoLine", rows_in, f"{text}:")
            self.refuses("NoLine", rows_in, f"7: ann; {text}: bo")

    def reads_or_refuses(self, read, write, form, text):
        tells = re.fullmatch(form, text) is not None
        if tells:
            self.assertEqual(write(read(text)), text)
        else:
            self.refuses("NoLine", read, text)
        return tells

    def test_103_one_sign_more_fewer_or_other(self):
        read = [self.reads_or_refuses(rows_in, rows_text, ROWS_FORM, text)
                for rows, told in ROWS for text in [told] + list(changed_texts(told))]
        self.assertGreater(min(read.count(True), read.count(False)), 2000)
        read = [self.reads_or_refuses(queue_in, queue_text, QUEUE_FORM, text)
                for queue, told in QUEUES for text in [told] + list(changed_texts(told))]
        self.assertGreater(min(read.count(True), read.count(False)), 1000)

    def test_103_all_short_texts_of_some_signs(self):
        texts = [""]
        for length in range(6):
            for text in texts:
                self.reads_or_refuses(rows_in, rows_text, ROWS_FORM, text)
                self.reads_or_refuses(queue_in, queue_text, QUEUE_FORM, text)
            texts = [text + sign for text in texts for sign in "a01:;, -"] if length < 5 else []

    def test_2_lists_that_are_told_are_new_ones(self):
        for rows, text in ROWS:
            self.shares_nothing(rows_in, lambda: (text,))
        for queue, text in QUEUES:
            self.shares_nothing(queue_in, lambda: (text,))


if __name__ == "__main__":
    unittest.main()
