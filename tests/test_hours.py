"""Hours [12], [13], [14], and of them what points 2 and 6 say."""

import itertools
import unittest

from latestturn.hours import Hours
from tests.helper import NO_NUMBERS, RefusalCase

FAR = 10 ** 30


def told_turns(hours, many):
    return [hours.at(turn) for turn in range(many)]


def laid_out(rows, rest, many):
    """The counters of the first turns, one by one, in the plainest way."""
    counters = []
    for turns, each in rows:
        counters += [each] * turns
    return (counters + [rest] * many)[:many]


def small_hours():
    """Every list of up to three rows of small numbers, with a rest."""
    some_rows = [(turns, counters) for turns in (1, 2) for counters in (0, 1, 2)]
    for many in range(4):
        for rows in itertools.product(some_rows, repeat=many):
            for rest in (1, 2):
                yield list(rows), rest


class HoursCase(RefusalCase):
    def same_hours(self, hours, rows, rest):
        self.assertIsInstance(hours, Hours)
        self.assertEqual((hours.rows(), hours.rest()), (rows, rest))

    def in_kept_form(self, hours):
        rows = hours.rows()
        self.assertIsInstance(rows, list)
        for row in rows:
            self.assertIsInstance(row, tuple)
            self.assertGreater(row[0], 0)
        for row, following in zip(rows, rows[1:]):
            self.assertNotEqual(row[1], following[1], rows)
        if rows:
            self.assertNotEqual(rows[-1][1], hours.rest(), rows)


class Making(HoursCase):
    def test_rows_and_rest(self):
        self.same_hours(Hours([(3, 2), (5, 0), (1, 4)], 1), [(3, 2), (5, 0), (1, 4)], 1)

    def test_no_rows(self):
        for rest in range(1, 9):
            self.same_hours(Hours([], rest), [], rest)

    def test_bounds_that_are_let_by(self):
        self.same_hours(Hours([(1, 0)], 1), [(1, 0)], 1)
        self.same_hours(Hours([(100, 8)], 1), [(100, 8)], 1)
        self.same_hours(Hours([(100, 0)], 8), [(100, 0)], 8)
        self.same_hours(Hours([(1, 8)], 7), [(1, 8)], 7)
        for turns in range(1, 101):
            self.same_hours(Hours([(turns, 3)], 2), [(turns, 3)], 2)

    def test_sixteen_rows_and_seventeen(self):
        sixteen = [(100, row % 2) for row in range(16)]
        self.same_hours(Hours(sixteen, 5), sixteen, 5)
        self.refuses("NoHours", Hours, sixteen + [(1, 7)], 5)
        self.refuses("NoHours", Hours, [(1, row % 2) for row in range(40)], 5)

    def test_rows_are_counted_as_handed_in(self):
        self.same_hours(Hours([(100, 2)] * 16, 1), [(1600, 2)], 1)
        self.same_hours(Hours([(1, 1)] * 16, 1), [], 1)
        self.refuses("NoHours", Hours, [(1, 2)] * 17, 1)
        self.refuses("NoHours", Hours, [(1, 1)] * 17, 1)

    def test_turns_out_of_bounds(self):
        for turns in (0, -1, 101, 102, 1000, -FAR, FAR):
            self.refuses("NoHours", Hours, [(turns, 2)], 1)
            self.refuses("NoHours", Hours, [(3, 1), (turns, 2)], 1)
            self.refuses("NoHours", Hours, [(turns, 2), (3, 1)], 1)
            self.refuses("NoHours", Hours, [(turns, 1)], 1)

    def test_counters_out_of_bounds(self):
        for counters in (-1, -8, 9, 10, -FAR, FAR):
            self.refuses("NoHours", Hours, [(2, counters)], 1)
            self.refuses("NoHours", Hours, [(3, 1), (2, counters)], 1)
            self.refuses("NoHours", Hours, [(2, counters), (3, 1)], 1)

    def test_rest_out_of_bounds(self):
        for rest in (0, -1, 9, 10, -FAR, FAR):
            self.refuses("NoHours", Hours, [], rest)
            self.refuses("NoHours", Hours, [(2, 1)], rest)

    def test_no_whole_numbers(self):
        for thing in NO_NUMBERS:
            self.refuses("NoHours", Hours, [(thing, 1)], 2)
            self.refuses("NoHours", Hours, [(1, thing)], 2)
            self.refuses("NoHours", Hours, [(1, 3)], thing)

    def test_no_rows_at_all(self):
        for rows in (None, 3, "", "ab", (), ((1, 2),), {}, [None], [3], ["ab"], [()], [(1,)], [(1, 2, 3)], [[1, 2]]):
            self.refuses("NoHours", Hours, rows, 1)


class KeptForm(HoursCase):
    def test_neighbours_with_as_many_counters_are_one_row(self):
        self.same_hours(Hours([(3, 2), (4, 2)], 1), [(7, 2)], 1)
        self.same_hours(Hours([(3, 2), (4, 2), (1, 2), (2, 0), (2, 0)], 1), [(8, 2), (4, 0)], 1)
        self.same_hours(Hours([(100, 2), (100, 2)], 1), [(200, 2)], 1)

    def test_alike_rows_that_are_no_neighbours_stay(self):
        self.same_hours(Hours([(3, 2), (1, 1), (4, 2)], 3), [(3, 2), (1, 1), (4, 2)], 3)

    def test_a_last_row_like_the_rest_goes(self):
        self.same_hours(Hours([(3, 2)], 2), [], 2)
        self.same_hours(Hours([(3, 2), (4, 1)], 1), [(3, 2)], 1)
        self.same_hours(Hours([(3, 2), (4, 1), (5, 1)], 1), [(3, 2)], 1)

    def test_a_row_like_the_rest_that_is_not_last_stays(self):
        self.same_hours(Hours([(3, 1), (4, 0)], 1), [(3, 1), (4, 0)], 1)

    def test_small_hours(self):
        for rows, rest in small_hours():
            hours = Hours(rows, rest)
            self.in_kept_form(hours)
            self.assertEqual(laid_out(hours.rows(), rest, 12), laid_out(rows, rest, 12))


class Asking(HoursCase):
    def test_counters_at_turns(self):
        hours = Hours([(2, 3), (1, 0), (3, 1)], 5)
        self.assertEqual(told_turns(hours, 9), [3, 3, 0, 1, 1, 1, 5, 5, 5])
        for turn in (100, 10 ** 5, FAR):
            self.assertEqual(hours.at(turn), 5)

    def test_counters_at_turns_of_long_rows(self):
        hours = Hours([(100, 8), (100, 0)] * 8, 3)
        for turn in range(1600):
            self.assertEqual(hours.at(turn), 8 if turn // 100 % 2 == 0 else 0)
        self.assertEqual(hours.at(1600), 3)

    def test_end(self):
        self.assertEqual(Hours([], 4).end(), 0)
        self.assertEqual(Hours([(5, 4)], 4).end(), 0)
        self.assertEqual(Hours([(2, 3), (1, 0), (3, 1)], 5).end(), 6)
        self.assertEqual(Hours([(2, 3), (1, 0), (3, 5)], 5).end(), 3)
        self.assertEqual(Hours([(100, 8), (100, 0)] * 8, 3).end(), 1600)

    def test_between(self):
        hours = Hours([(2, 3), (1, 0), (3, 1)], 5)
        for first, last, told in ((0, 0, 3), (0, 1, 6), (0, 2, 6), (1, 4, 5), (2, 2, 0), (0, 5, 9), (5, 6, 6),
                                  (6, 6, 5), (7, 9, 15), (0, 9, 29)):
            self.assertEqual(hours.between(first, last), told, (first, last))

    def test_between_where_last_is_less(self):
        hours = Hours([(2, 3), (1, 0), (3, 1)], 5)
        for first in range(12):
            for last in range(first):
                self.assertEqual(hours.between(first, last), 0)
        self.assertEqual(hours.between(FAR, 0), 0)

    def test_between_far_turns(self):
        hours = Hours([(2, 3), (1, 0), (3, 1)], 5)
        self.assertEqual(hours.between(0, FAR), 9 + 5 * (FAR - 5))
        self.assertEqual(hours.between(FAR, FAR + 2), 15)

    def test_free(self):
        hours = Hours([(2, 3), (2, 0), (3, 1), (1, 0)], 5)
        for first, last, told in ((0, 1, None), (0, 2, 2), (0, 9, 2), (2, 2, 2), (3, 3, 3), (3, 9, 3), (4, 6, None),
                                  (4, 7, 7), (4, 9, 7), (7, 7, 7), (8, 8, None), (8, 99, None), (0, FAR, 2),
                                  (FAR, FAR, None), (8, FAR, None)):
            self.assertEqual(hours.free(first, last), told, (first, last))

    def test_free_at_turn_0_is_told_as_a_turn(self):
        self.assertIs(type(Hours([(2, 0)], 1).free(0, 5)), int)
        self.assertEqual(Hours([(2, 0)], 1).free(0, 0), 0)

    def test_free_where_last_is_less(self):
        hours = Hours([(2, 3), (4, 0), (3, 1)], 5)
        for first in range(12):
            for last in range(first):
                self.assertIsNone(hours.free(first, last))

    def test_small_hours(self):
        for rows, rest in small_hours():
            hours = Hours(rows, rest)
            plain = laid_out(rows, rest, 12)
            self.assertEqual(told_turns(hours, 12), plain)
            ends = [turn for turn in range(12) if set(plain[turn:]) == {rest}]
            self.assertEqual(hours.end(), ends[0])
            for first in range(9):
                for last in range(9):
                    self.assertEqual(hours.between(first, last), sum(plain[first:last + 1]))
                    without = [turn for turn in range(first, last + 1) if plain[turn] == 0]
                    self.assertEqual(hours.free(first, last), without[0] if without else None)


class OtherHours(HoursCase):
    def test_less(self):
        hours = Hours([(4, 3), (2, 1)], 2)
        self.same_hours(hours.less(1, 2), [(1, 3), (2, 2), (1, 3), (2, 1)], 2)
        self.same_hours(hours.less(3, 4), [(3, 3), (1, 2), (1, 0), (1, 1)], 2)
        self.same_hours(hours.less(0, 0), [(1, 2), (3, 3), (2, 1)], 2)
        self.same_hours(hours.less(0, 5), [(4, 2), (2, 0)], 2)

    def test_less_in_the_rest(self):
        hours = Hours([(4, 3)], 2)
        self.same_hours(hours.less(4, 4), [(4, 3), (1, 1)], 2)
        self.same_hours(hours.less(6, 8), [(4, 3), (2, 2), (3, 1)], 2)
        self.same_hours(hours.less(2, 5), [(2, 3), (2, 2), (2, 1)], 2)
        self.same_hours(Hours([], 1).less(10 ** 5, 10 ** 5 + 49), [(10 ** 5, 1), (50, 0)], 1)

    def test_more(self):
        hours = Hours([(4, 3), (2, 0)], 2)
        self.same_hours(hours.more(1, 2), [(1, 3), (2, 4), (1, 3), (2, 0)], 2)
        self.same_hours(hours.more(3, 4), [(3, 3), (1, 4), (1, 1), (1, 0)], 2)
        self.same_hours(hours.more(5, 7), [(4, 3), (1, 0), (1, 1), (2, 3)], 2)
        self.same_hours(hours.more(0, 8), [(4, 4), (2, 1), (3, 3)], 2)
        self.same_hours(hours.more(8, 8), [(4, 3), (2, 0), (2, 2), (1, 3)], 2)

    def test_neighbours_grow_together(self):
        self.same_hours(Hours([(4, 3), (2, 2)], 1).less(0, 3), [(6, 2)], 1)
        self.same_hours(Hours([(4, 3), (2, 2)], 3).more(4, 5), [], 3)
        self.same_hours(Hours([(2, 1), (4, 2)], 1).less(2, 5), [], 1)
        self.same_hours(Hours([(2, 1), (4, 2), (3, 1)], 5).less(2, 5), [(9, 1)], 5)
        self.same_hours(Hours([(2, 1), (4, 2)], 1).less(5, 5), [(2, 1), (3, 2)], 1)

    def test_beyond_the_bounds_of_rows_that_are_handed_in(self):
        hours = Hours([], 8)
        for turn in range(0, 80, 2):
            hours = hours.more(turn, turn)
        self.same_hours(hours, ([(1, 9), (1, 8)] * 40)[:-1], 8)
        self.same_hours(Hours([], 8).more(0, 299).more(0, 299).more(0, 299), [(300, 11)], 8)
        many = Hours([], 1)
        for turn in range(50):
            many = many.less(3 * turn, 3 * turn)
        self.same_hours(many, ([(1, 0), (2, 1)] * 50)[:-1], 1)
        self.assertEqual((many.end(), many.between(0, 149), many.free(4, 9)), (148, 100, 6))

    def test_counters_at_turns_of_very_many_rows(self):
        many = Hours([(1, 0), (3, 4)], 5)
        for number in range(300):
            many = many.less(1 + 3 * number, 1 + 3 * number + number % 2)
        for turn in range(1000):
            due = 0 if turn == 0 else 4 if turn < 4 else 5
            for number in range(300):
                due -= 1 + 3 * number <= turn <= 1 + 3 * number + number % 2
            self.assertEqual(many.at(turn), due, turn)
        self.assertGreater(len(many.rows()), 500)

    def test_all_counters_taken_and_given_back(self):
        hours = Hours([(5, 2)], 3)
        taken = hours.less(3, 6).less(3, 6)
        self.same_hours(taken, [(3, 2), (2, 0), (2, 1)], 3)
        self.same_hours(taken.more(3, 6).more(3, 6), [(5, 2)], 3)

    def test_less_is_refused_where_there_is_no_counter(self):
        hours = Hours([(2, 3), (2, 0), (3, 1), (1, 0)], 5)
        for first, last, turn in ((0, 2, 2), (0, 99, 2), (2, 2, 2), (3, 3, 3), (3, 8, 3), (5, 9, 7), (7, 7, 7)):
            self.refuses("NoCounter", hours.less, first, last, turn=turn)
        self.same_hours(hours, [(2, 3), (2, 0), (3, 1), (1, 0)], 5)
        self.refuses("NoCounter", Hours([(1, 0)], 1).less, 0, 0, turn=0)

    def test_less_is_refused_where_all_are_taken(self):
        hours = Hours([], 1).less(4, 6)
        self.refuses("NoCounter", hours.less, 6, 9, turn=6)
        self.refuses("NoCounter", hours.less, 0, 9, turn=4)
        self.same_hours(hours.less(7, 9), [(4, 1), (6, 0)], 1)

    def test_last_less_than_first(self):
        for rows, rest in (([], 1), ([(3, 2), (2, 0), (1, 4)], 1), ([(6, 0)], 3)):
            hours = Hours(rows, rest)
            for first in range(12):
                for last in range(first):
                    self.same_hours(hours.less(first, last), rows, rest)
                    self.same_hours(hours.more(first, last), rows, rest)

    def test_small_hours(self):
        for rows, rest in small_hours():
            hours = Hours(rows, rest)
            plain = laid_out(rows, rest, 12)
            for first, last in itertools.product(range(8), repeat=2):
                within = [first <= turn <= last for turn in range(12)]
                more = hours.more(first, last)
                self.in_kept_form(more)
                self.assertEqual(told_turns(more, 12), [each + add for each, add in zip(plain, within)])
                without = [turn for turn in range(first, last + 1) if plain[turn] == 0]
                if without:
                    self.refuses("NoCounter", hours.less, first, last, turn=without[0])
                    continue
                less = hours.less(first, last)
                self.in_kept_form(less)
                self.assertEqual(told_turns(less, 12), [each - one for each, one in zip(plain, within)])
                self.assertEqual((less.rest(), more.rest()), (rest, rest))


class NothingChanges(HoursCase):
    ROWS = [(3, 2), (2, 0), (2, 0), (4, 1), (1, 3)]
    KEPT = [(3, 2), (4, 0), (4, 1)]

    def test_what_is_handed_in_is_not_changed(self):
        rows = list(self.ROWS)
        hours = Hours(rows, 3)
        hours.less(0, 1)
        hours.more(0, 20)
        self.assertEqual(rows, self.ROWS)
        refused = self.ROWS * 4
        self.refuses("NoHours", Hours, refused, 3)
        self.assertEqual(refused, self.ROWS * 4)

    def test_changing_it_later_changes_nothing(self):
        for rows in (list(self.ROWS), list(self.KEPT)):
            hours = Hours(rows, 3)
            rows[0] = (9, 9)
            rows.append((5, 5))
            self.same_hours(hours, self.KEPT, 3)
            rows.clear()
            self.same_hours(hours, self.KEPT, 3)
            self.assertEqual(told_turns(hours, 12), [2, 2, 2, 0, 0, 0, 0, 1, 1, 1, 1, 3])

    def test_lists_that_are_told_are_new_ones(self):
        for hours in (Hours(self.ROWS, 3), Hours(self.ROWS, 3).more(9, 8), Hours(self.ROWS, 3).less(0, 1).more(0, 1)):
            told = hours.rows()
            self.assertIsNot(hours.rows(), told)
            told[0] = (9, 9)
            told.append((5, 5))
            self.same_hours(hours, self.KEPT, 3)
            told.clear()
            self.same_hours(hours, self.KEPT, 3)
            self.assertEqual((hours.end(), hours.at(4), hours.free(0, 9)), (11, 0, 3))

    def test_hours_are_never_changed(self):
        hours = Hours(self.ROWS, 3)
        hours.less(0, 2)
        hours.more(0, 30)
        hours.less(11, 12).less(11, 12).less(11, 12)
        self.refuses("NoCounter", hours.less, 0, 30, turn=3)
        hours.between(0, 50)
        hours.free(0, 50)
        self.same_hours(hours, self.KEPT, 3)
        self.assertEqual(told_turns(hours, 12), [2, 2, 2, 0, 0, 0, 0, 1, 1, 1, 1, 3])
        self.assertEqual((hours.end(), hours.between(0, 11)), (11, 13))

    def test_hours_made_alike_tell_alike_and_share_nothing(self):
        rows = list(self.ROWS)
        one = Hours(rows, 3)
        two = Hours(rows, 3)
        one.rows().clear()
        self.same_hours(one.less(0, 1), two.less(0, 1).rows(), 3)
        self.same_hours(two, self.KEPT, 3)


if __name__ == "__main__":
    unittest.main()
