"""Two runs beside one another [51] to [54], and of them what points 2 to 7 say."""

import itertools
import unittest

from latestturn.beside import eases, first_worse, left_by
from latestturn.hours import Hours
from latestturn.latest import all_done, latest_all
from latestturn.runs import had_by, run_of
from tests.helper import Rule, SharingCase, long_queue, made_halls

FAR = 10 ** 30
QUEUE = [("ann", 3), ("bo", 1), ("cy", 2), ("dee", 1)]
HOURS = Hours([(1, 2), (1, 0), (2, 1)], 3)
RUN = [(0, ["ann", "bo"]), (1, []), (2, ["ann"]), (3, ["ann"]), (4, ["cy", "dee"]), (5, ["cy"])]
LEFT = [[3, 1, 2, 1], [2, 0, 2, 1], [2, 0, 2, 1], [1, 0, 2, 1], [0, 0, 2, 1], [0, 0, 1, 0], [0, 0, 0, 0]]


def own(rows):
    return [(turn, list(names)) for turn, names in rows]


def plain_worse(queue, rows, other, other_rows):
    """The first (turn, name) of all that are worse, each counted by itself."""
    for turn, served in rows:
        for name, left in queue:
            other_left = dict(other).get(name, 0) - had_by(other_rows, name, turn)
            if left - had_by(rows, name, turn) > other_left:
                return (turn, name)
    return None


class LeftBy(SharingCase):
    def test_behind_each_turn(self):
        for turn in range(-1, 6):
            told = left_by(QUEUE, RUN, turn)
            self.assertEqual(list(told.items()), list(zip(("ann", "bo", "cy", "dee"), LEFT[turn + 1])))

    def test_ahead_of_all_rows_and_far_behind(self):
        for turn in (-FAR, -10, -1):
            self.assertEqual(left_by(QUEUE, RUN, turn), dict(QUEUE))
        for turn in (-FAR, -1, 0, 8):
            self.assertEqual(left_by(QUEUE, run_of(QUEUE, HOURS, 9), turn), dict(QUEUE))
        for turn in (5, 6, 10 ** 5, 10 ** 5 + 1, FAR):
            self.assertEqual(left_by(QUEUE, RUN, turn), {"ann": 0, "bo": 0, "cy": 0, "dee": 0})

    def test_no_rows_and_the_first_rows(self):
        for many in range(len(RUN) + 1):
            for turn in (many - 1, many, FAR):
                self.assertEqual(list(left_by(QUEUE, RUN[:many], turn).values()), LEFT[many])

    def test_only_names_of_the_queue_are_told(self):
        for turn in (-1, 0, 3, FAR):
            told = left_by(QUEUE, RUN, turn)
            self.assertEqual(left_by(QUEUE[1:3], RUN, turn), {"bo": told["bo"], "cy": told["cy"]})

    def test_no_tickets(self):
        for turn in (-1, 0, FAR):
            self.assertEqual(left_by([], [], turn), {})

    def test_sixty_tickets(self):
        queue = long_queue(60, 20)
        run = run_of(queue, Hours([], 8), 10 ** 5)
        self.assertEqual(left_by(queue, run, 10 ** 5 - 1), dict(queue))
        self.assertEqual(left_by(queue, run, 10 ** 5), {f"t{place}": 20 - (place < 8) for place in range(60)})
        self.assertEqual(list(left_by(queue, run, FAR)), [f"t{place}" for place in range(60)])

    def test_made_halls(self):
        for queue, hours, begin in made_halls():
            run = run_of(queue, hours, begin)
            for rows in (run, run[:len(run) // 2]):
                for turn in (begin - 1, begin, begin + len(run) // 3, begin + len(run)):
                    told = left_by(queue, rows, turn)
                    self.assertEqual(list(told), [name for name, left in queue])
                    for name, left in queue[:6]:
                        self.assertEqual(told[name], left - had_by(rows, name, turn))


class FirstWorse(SharingCase):
    def worse(self, queue, other, hours=HOURS, other_hours=HOURS, begin=0):
        return first_worse(queue, run_of(queue, hours, begin), other, run_of(other, other_hours, begin))

    def test_like_itself(self):
        self.assertIsNone(self.worse(QUEUE, QUEUE))
        for queue, hours, begin in made_halls():
            run = run_of(queue, hours, begin)
            self.assertIsNone(first_worse(queue, run, queue, run))

    def test_names_that_the_second_one_has_not(self):
        self.assertEqual(self.worse(QUEUE, QUEUE[1:]), (0, "ann"))
        self.assertEqual(self.worse(QUEUE, QUEUE[:2] + QUEUE[3:]), (0, "cy"))
        self.assertEqual(self.worse(QUEUE, []), (0, "ann"))
        # Of bo nothing is left in either, behind the first turn.
        self.assertIsNone(self.worse(QUEUE[:2], QUEUE[:1]))
        self.assertEqual(self.worse([("a", 2)], [], Hours([], 1)), (0, "a"))
        self.assertIsNone(self.worse([("a", 1)], [], Hours([], 1)))

    def test_names_that_the_first_one_has_not(self):
        self.assertIsNone(self.worse(QUEUE[1:], QUEUE))
        self.assertIsNone(self.worse([("cy", 2)], QUEUE))
        self.assertEqual(self.worse([("cy", 2)], [("cy", 1), ("zed", 9)]), (0, "cy"))

    def test_another_order(self):
        self.assertEqual(self.worse([("a", 2), ("b", 2)], [("b", 2), ("a", 2)], Hours([], 1), Hours([], 1)), (0, "b"))
        self.assertEqual(self.worse([("b", 2), ("a", 2)], [("a", 2), ("b", 2)], Hours([], 1), Hours([], 1)), (0, "a"))
        self.assertIsNone(self.worse([("a", 2), ("b", 2)], [("b", 2), ("a", 2)], Hours([], 2), Hours([], 2)))

    def test_more_and_less_left(self):
        self.assertEqual(self.worse([("a", 2), ("b", 2)], [("a", 2), ("b", 1)]), (0, "b"))
        self.assertEqual(self.worse([("a", 3), ("b", 2)], [("a", 2), ("b", 1)]), (0, "a"))
        self.assertIsNone(self.worse([("a", 2), ("b", 1)], [("a", 2), ("b", 2)]))
        self.assertIsNone(self.worse([("a", 2), ("b", 1)], [("a", 3), ("b", 1)]))

    def test_fewer_counters(self):
        self.assertEqual(self.worse(QUEUE, QUEUE, HOURS, HOURS.more(3, 3)), (3, "cy"))
        self.assertEqual(self.worse(QUEUE, QUEUE, HOURS, HOURS.more(1, 1)), (1, "ann"))
        self.assertIsNone(self.worse(QUEUE, QUEUE, HOURS.more(3, 3), HOURS))
        self.assertEqual(self.worse(QUEUE, QUEUE, Hours([(9, 0)], 1), Hours([(5, 0)], 1), 3), (5, "ann"))

    def test_of_one_turn_the_name_that_stands_first(self):
        for names in itertools.permutations(("a", "b", "c")):
            queue = [(name, 2) for name in names]
            other = [("c", 1), ("b", 1), ("a", 1)]
            self.assertEqual(self.worse(queue, other, Hours([], 3), Hours([], 3)), (0, names[0]))

    def test_the_least_turn_goes_first(self):
        queue = [("a", 1), ("b", 1), ("c", 3)]
        hours, other_hours = Hours([(3, 1)], 8), Hours([(1, 1)], 8)
        # From turn 1 on both b and c are served in the second one; but b also in the first one.
        self.assertEqual(self.worse(queue, queue, hours, other_hours), (1, "c"))

    def test_only_turns_of_the_rows_of_the_first_one(self):
        run = run_of([("a", 3)], Hours([], 1), 0)
        self.assertIsNone(first_worse([("a", 3)], [], [("a", 1)], [(0, ["a"])]))
        self.assertIsNone(first_worse([("a", 3)], [], [], []))
        self.assertIsNone(first_worse([], [], [("a", 3)], run))
        self.assertIsNone(first_worse([("a", 3)], run[:1], [("a", 3)], run))

    def test_the_second_one_has_fewer_rows_or_none(self):
        run = run_of([("a", 3)], Hours([], 1), 0)
        for many in range(4):
            self.assertIsNone(first_worse([("a", 3)], run, [("a", 3)], run[:many]))
        self.assertEqual(first_worse([("a", 3)], run, [("a", 1)], run[:1]), (0, "a"))
        self.assertIsNone(first_worse([("a", 3)], run, [("a", 2)], []))
        self.assertEqual(first_worse([("a", 3)], run, [("a", 1)], []), (0, "a"))

    def test_begin(self):
        for begin in (0, 3, 10 ** 5):
            told = self.worse([("a", 5), ("b", 1)], [("a", 4)], Hours([], 1), Hours([], 1), begin)
            self.assertEqual(told, (begin, "a"))
            told = self.worse([("b", 1), ("a", 5)], [("b", 1), ("a", 5)], Hours([], 1), Hours([], 2), begin)
            self.assertEqual(told, (begin, "a"))

    def test_first_rows_of_runs(self):
        for many, other_many in itertools.product(range(7), repeat=2):
            for other in (QUEUE, QUEUE[1:], [("ann", 1), ("bo", 1), ("cy", 2)], [("cy", 5), ("ann", 3), ("ed", 1)]):
                rows, other_rows = RUN[:many], run_of(other, HOURS.more(1, 2), 0)[:other_many]
                told = first_worse(QUEUE, rows, other, other_rows)
                self.assertEqual(told, plain_worse(QUEUE, rows, other, other_rows))

    def test_made_pairs(self):
        rule = Rule(11)
        told = {}
        for number in range(600):
            hours, other_hours = rule.hours(), rule.hours()
            begin = rule.begin(hours)
            queue, other = rule.queue(6, 4), rule.queue(6, 4)
            if number % 3 == 0:
                other = other[::-1]
            rows, other_rows = run_of(queue, hours, begin), run_of(other, other_hours, begin)
            if number % 5 == 0:
                rows = rows[:rule.below(len(rows) + 1)]
                other_rows = other_rows[:rule.below(len(other_rows) + 1)]
            worse = first_worse(queue, rows, other, other_rows)
            self.assertEqual(worse, plain_worse(queue, rows, other, other_rows))
            told[worse and worse[0] - begin] = True
        self.assertGreater(len(told), 3)

    def test_long_runs(self):
        queue = long_queue(60, 20)
        late, soon = Hours([(100, 0)] * 16, 1), Hours([(100, 0)] * 16, 1).more(2799, 2799)
        self.assertIsNone(self.worse(queue, queue, late, soon))
        self.assertEqual(self.worse(queue, queue, late, soon.more(2779, 2779)), (2779, "t59"))


class Easing(SharingCase):
    def easing(self, other, other_hours=HOURS, begin=0, last=9):
        return eases(QUEUE, HOURS, other, other_hours, begin, last)

    def test_like_itself(self):
        for begin, last in ((0, 0), (0, 9), (3, 3000), (10 ** 5, 10 ** 5 + 3000), (5, 4), (0, -1), (7, -FAR)):
            self.assertIs(self.easing(QUEUE, HOURS, begin, last), True)
            self.assertIs(eases([], HOURS, [], HOURS, begin, last), True)

    def test_names_of_the_first_one_in_their_order(self):
        for many in range(5):
            for other in itertools.permutations(QUEUE, many):
                in_order = list(other) == [ticket for ticket in QUEUE if ticket in other]
                self.assertIs(self.easing(list(other)), in_order)

    def test_names_that_the_first_one_has_not(self):
        for place in range(5):
            self.assertIs(self.easing(QUEUE[:place] + [("zed", 1)] + QUEUE[place:]), False)
            self.assertIs(self.easing(QUEUE[:place] + [("zed", 1)] + QUEUE[place + 1:]), False)
        self.assertIs(self.easing([("zed", 1)]), False)
        self.assertIs(eases([], HOURS, [("ann", 1)], HOURS, 0, 9), False)
        self.assertIs(eases(QUEUE, HOURS, [], HOURS, 0, 9), True)

    def test_as_much_left_or_less(self):
        for place, (name, left) in enumerate(QUEUE):
            for told in range(1, 21):
                other = QUEUE[:place] + [(name, told)] + QUEUE[place + 1:]
                self.assertIs(self.easing(other), told <= left)
                self.assertIs(self.easing([(name, told)]), told <= left)
        self.assertIs(self.easing([("ann", 1), ("bo", 1), ("cy", 3)]), False)

    def test_as_many_counters_or_more(self):
        self.assertIs(self.easing(QUEUE, HOURS.more(0, 9)), True)
        self.assertIs(self.easing(QUEUE, HOURS.more(3, 3)), True)
        self.assertIs(self.easing(QUEUE, Hours([], 2)), False)
        self.assertIs(self.easing(QUEUE, Hours([], 3)), True)
        for turn in (0, 2, 3, 4, 9):
            self.assertIs(self.easing(QUEUE, HOURS.less(turn, turn)), False)
            self.assertIs(self.easing(QUEUE, HOURS.more(0, 9).less(turn, turn)), True)
            self.assertIs(self.easing(QUEUE, HOURS.more(0, 9).less(turn, turn).less(turn, turn)), False)

    def test_only_turns_from_begin_to_last(self):
        for turn in (0, 2, 3, 4, 8, 12):
            other_hours = HOURS.less(turn, turn)
            for begin in range(14):
                for last in range(-2, 14):
                    self.assertIs(self.easing(QUEUE, other_hours, begin, last), not begin <= turn <= last)

    def test_last_ahead_of_begin(self):
        for begin, last in ((0, -1), (1, 0), (9, 3), (10 ** 5, 0), (0, -FAR), (10 ** 5, -FAR)):
            self.assertIs(self.easing(QUEUE, Hours([], 1), begin, last), True)
            self.assertIs(self.easing(QUEUE[::-1], Hours([], 1), begin, last), False)
            self.assertIs(self.easing([("ann", 4)], Hours([], 1), begin, last), False)

    def test_far_turns(self):
        last_less = HOURS.less(3000, 3000)
        self.assertIs(self.easing(QUEUE, last_less, 0, 2999), True)
        self.assertIs(self.easing(QUEUE, last_less, 0, 3000), False)
        self.assertIs(self.easing(QUEUE, Hours([(2, 0)], 2), 10 ** 5, 10 ** 5 + 3000), False)
        self.assertIs(self.easing(QUEUE, Hours([(2, 0)], 3), 10 ** 5, 10 ** 5 + 3000), True)

    def test_it_is_not_the_other_way_round(self):
        self.assertIs(eases(QUEUE[1:], HOURS, QUEUE, HOURS, 0, 9), False)
        self.assertIs(eases(QUEUE, HOURS.more(0, 0), QUEUE, HOURS, 0, 9), False)

    def test_sixty_tickets(self):
        self.assertIs(eases(long_queue(60, 20), HOURS, long_queue(60), HOURS, 0, 3000), True)
        self.assertIs(eases(long_queue(60), HOURS, long_queue(60, 1), HOURS, 0, 3000), True)
        self.assertIs(eases(long_queue(60), HOURS, long_queue(60, 20), HOURS, 0, 3000), False)


def eased(rule, queue, hours, begin, last):
    """A queue and hours that ease these from begin to last, made by the rule."""
    other = []
    for name, left in queue:
        if rule.below(4):
            other.append((name, left if rule.below(2) else 1 + rule.below(left)))
    other_hours = hours
    for number in range(rule.below(4)):
        first = begin + rule.below(max(1, last - begin + 3))
        other_hours = other_hours.more(first, first + rule.below(4))
    # Counters fewer ahead of begin and behind last make no difference.
    for turn in (begin - 1, last + 1, last + 2):
        if turn >= 0 and other_hours.at(turn) > 0 and not begin <= turn <= last:
            other_hours = other_hours.less(turn, turn)
    return other, other_hours


class WhoEasesIsNowhereWorse(SharingCase):
    def nowhere_worse(self, queue, hours, other, other_hours, begin):
        self.assertIs(eases(queue, hours, other, other_hours, begin, all_done(queue, hours, begin)), True)
        rows, other_rows = run_of(queue, hours, begin), run_of(other, other_hours, begin)
        # The second one's run is the first that is asked of: more is left in it nowhere.
        self.assertIsNone(first_worse(other, other_rows, queue, rows))
        latest = latest_all(queue, hours, begin)
        for name, turn in latest_all(other, other_hours, begin).items():
            self.assertLessEqual(turn, latest[name])

    def test_made_halls(self):
        rule = Rule(3)
        for queue, hours, begin in made_halls():
            last = all_done(queue, hours, begin)
            for number in range(4):
                other, other_hours = eased(rule, queue, hours, begin, last)
                self.nowhere_worse(queue, hours, other, other_hours, begin)

    def test_services_that_turn_out_shorter(self):
        for queue, hours, begin in made_halls():
            other = [(name, (left + 1) // 2) for name, left in queue]
            self.nowhere_worse(queue, hours, other, hours, begin)

    def test_tickets_that_go(self):
        for queue, hours, begin in made_halls():
            for place in {0, 1, len(queue) // 2, len(queue) - 1} & set(range(len(queue))):
                self.nowhere_worse(queue, hours, queue[:place] + queue[place + 1:], hours, begin)

    def test_counters_that_are_added(self):
        for queue, hours, begin in made_halls():
            for first in (begin, begin + 1, all_done(queue, hours, begin) + 1):
                self.nowhere_worse(queue, hours, queue, hours.more(first, first + 2), begin)


class NothingIsShared(SharingCase):
    def test_point_2(self):
        for many in range(len(RUN) + 1):
            for turn in (-1, 0, 3, 9):
                self.shares_nothing(left_by, lambda: (list(QUEUE), own(RUN[:many]), turn))
            self.shares_nothing(first_worse, lambda: (list(QUEUE), own(RUN[:many]), QUEUE[1:], own(RUN[1:many])))
            self.shares_nothing(first_worse, lambda: (list(QUEUE), own(RUN), list(QUEUE), own(RUN)))
        for other in (QUEUE, QUEUE[1:], QUEUE[::-1], [("ann", 4)], []):
            self.shares_nothing(eases, lambda: (list(QUEUE), HOURS, list(other), HOURS.more(0, 3), 0, 9))


if __name__ == "__main__":
    unittest.main()
