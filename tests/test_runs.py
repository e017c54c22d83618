"""Turns served, and runs [31] to [34], and of them what points 2 to 6 say."""

import unittest

from latestturn.hours import Hours
from latestturn.queues import check_queue
from latestturn.runs import ends_of, had_by, run_of, turn_served, walk_run
from tests.helper import NO_NUMBERS, SharingCase, long_queue, made_halls, plain_run

FAR = 10 ** 30
QUEUE = [("ann", 3), ("bo", 1), ("cy", 2), ("dee", 1)]
HOURS = Hours([(1, 2), (1, 0), (2, 1)], 3)
RUN = [(0, ["ann", "bo"]), (1, []), (2, ["ann"]), (3, ["ann"]), (4, ["cy", "dee"]), (5, ["cy"])]
# What is left behind no row, behind the first one, and so on.
LEFT = [
    QUEUE,
    [("ann", 2), ("cy", 2), ("dee", 1)],
    [("ann", 2), ("cy", 2), ("dee", 1)],
    [("ann", 1), ("cy", 2), ("dee", 1)],
    [("cy", 2), ("dee", 1)],
    [("cy", 1)],
    [],
]
NO_TAKES = NO_NUMBERS + [-1, -2, -FAR, 0.0, 2.0, -0.5]


class TurnsServed(SharingCase):
    def test_the_first_by_rank_are_served(self):
        self.assertEqual(turn_served(QUEUE, 1), (["ann"], [("ann", 2), ("bo", 1), ("cy", 2), ("dee", 1)]))
        self.assertEqual(turn_served(QUEUE, 2), (["ann", "bo"], [("ann", 2), ("cy", 2), ("dee", 1)]))
        self.assertEqual(turn_served(QUEUE, 3), (["ann", "bo", "cy"], [("ann", 2), ("cy", 1), ("dee", 1)]))
        self.assertEqual(turn_served(QUEUE, 4), (["ann", "bo", "cy", "dee"], [("ann", 2), ("cy", 1)]))

    def test_rank_is_the_order_of_the_queue(self):
        self.assertEqual(turn_served([("zed", 1), ("ann", 2)], 1), (["zed"], [("ann", 2)]))

    def test_no_counter(self):
        self.assertEqual(turn_served(QUEUE, 0), ([], QUEUE))
        self.assertEqual(turn_served([], 0), ([], []))

    def test_more_counters_than_tickets(self):
        for many in (5, 8, 61, FAR):
            self.assertEqual(turn_served(QUEUE, many), (["ann", "bo", "cy", "dee"], [("ann", 2), ("cy", 1)]))
            self.assertEqual(turn_served([], many), ([], []))
            self.assertEqual(turn_served([("a", 1)], many), (["a"], []))

    def test_1_and_20_left(self):
        self.assertEqual(turn_served([("a", 1), ("b", 20)], 1), (["a"], [("b", 20)]))
        self.assertEqual(turn_served([("b", 20), ("a", 1)], 1), (["b"], [("b", 19), ("a", 1)]))
        self.assertEqual(turn_served([("b", 20), ("a", 1)], 2), (["b", "a"], [("b", 19)]))

    def test_sixty_tickets(self):
        queue = long_queue(60)
        for many in range(63):
            names, behind = turn_served(queue, many)
            self.assertEqual(names, [f"t{number}" for number in range(min(many, 60))])
            less = [(name, left - (place < many)) for place, (name, left) in enumerate(queue)]
            self.assertEqual(behind, [ticket for ticket in less if ticket[1] > 0])

    def test_kinds(self):
        for many in (0, 2, 9):
            told = turn_served(QUEUE, many)
            self.assertIs(type(told), tuple)
            self.assertEqual([type(part) for part in told], [list, list])
            self.assertIs(check_queue(told[1]), True)


class Runs(SharingCase):
    def test_turn_by_turn(self):
        self.assertEqual(run_of(QUEUE, HOURS, 0), RUN)

    def test_begin_within_the_rows_of_the_hours(self):
        self.assertEqual(run_of(QUEUE, HOURS, 1), [
            (1, []), (2, ["ann"]), (3, ["ann"]), (4, ["ann", "bo", "cy"]), (5, ["cy", "dee"])])
        self.assertEqual(run_of(QUEUE, HOURS, 3), [(3, ["ann"]), (4, ["ann", "bo", "cy"]), (5, ["ann", "cy", "dee"])])

    def test_begin_behind_the_end_of_the_hours(self):
        for begin in (4, 5, 100, 10 ** 5):
            self.assertEqual(run_of(QUEUE, HOURS, begin), [
                (begin, ["ann", "bo", "cy"]), (begin + 1, ["ann", "cy", "dee"]), (begin + 2, ["ann"])])

    def test_no_tickets(self):
        for hours in (HOURS, Hours([(3, 0)], 1)):
            for begin in (0, 1, 4, 10 ** 5):
                self.assertEqual(run_of([], hours, begin), [])

    def test_one_ticket(self):
        self.assertEqual(run_of([("a", 1)], Hours([], 8), 0), [(0, ["a"])])
        self.assertEqual(run_of([("a", 1)], Hours([(3, 0)], 1), 1), [(1, []), (2, []), (3, ["a"])])
        self.assertEqual(run_of([("a", 20)], Hours([], 1), 5), [(turn, ["a"]) for turn in range(5, 25)])
        self.assertEqual(run_of([("a", 20)], Hours([], 8), 5), [(turn, ["a"]) for turn in range(5, 25)])

    def test_sixty_tickets(self):
        queue = long_queue(60, 20)
        run = run_of(queue, Hours([], 1), 3)
        self.assertEqual(run, [(3 + turn, [f"t{turn // 20}"]) for turn in range(1200)])
        run = run_of(queue, Hours([(100, 0)] * 16, 8), 0)
        self.assertEqual(run[:1600], [(turn, []) for turn in range(1600)])
        self.assertEqual(run[1600], (1600, [f"t{number}" for number in range(8)]))
        self.assertEqual(sum(len(names) for turn, names in run), 1200)

    def test_by_hours_that_are_told_by_hours(self):
        self.assertEqual(run_of([("a", 2)], Hours([], 1).less(1, 2), 0), [(0, ["a"]), (1, []), (2, []), (3, ["a"])])
        self.assertEqual(run_of([("a", 1), ("b", 1)], Hours([], 1).more(0, 0), 0), [(0, ["a", "b"])])

    def test_it_ends_where_the_last_goes_out(self):
        for queue, hours, begin in made_halls():
            run = run_of(queue, hours, begin)
            if run:
                self.assertNotEqual(run[-1][1], [])
            self.assertEqual([turn for turn, names in run], list(range(begin, begin + len(run))))

    def test_made_halls(self):
        for queue, hours, begin in made_halls():
            self.assertEqual(run_of(queue, hours, begin), plain_run(queue, hours, begin))

    def test_as_turns_are_served(self):
        for queue, hours, begin in made_halls():
            for turn, names in run_of(queue, hours, begin):
                served, queue = turn_served(queue, hours.at(turn))
                self.assertEqual(served, names)
            self.assertEqual(queue, [])

    def test_nobody_is_served_while_somebody_ahead_is_not(self):
        for queue, hours, begin in made_halls():
            waiting = dict(queue)
            for turn, names in run_of(queue, hours, begin):
                self.assertEqual(names, list(waiting)[:hours.at(turn)])
                for name in names:
                    waiting[name] -= 1
                    if waiting[name] == 0:
                        del waiting[name]


class RealRuns(SharingCase):
    def run_with(self, takes, queue=QUEUE, hours=HOURS, begin=0):
        return run_of(queue, hours, begin, lambda name: takes[name])

    def test_fewer_turns(self):
        self.assertEqual(self.run_with({"ann": 1, "bo": 1, "cy": 1, "dee": 1}), [
            (0, ["ann", "bo"]), (1, []), (2, ["cy"]), (3, ["dee"])])

    def test_as_many_as_are_left_and_more(self):
        self.assertEqual(self.run_with(dict(QUEUE)), RUN)
        for more in (1, 20, FAR, 10 ** 5000):
            self.assertEqual(self.run_with({name: left + more for name, left in QUEUE}), RUN)

    def test_none(self):
        self.assertEqual(self.run_with({"ann": 0, "bo": 1, "cy": 2, "dee": 0}), [
            (0, ["bo", "cy"]), (1, []), (2, ["cy"])])
        self.assertEqual(self.run_with({"ann": 3, "bo": 0, "cy": 0, "dee": 0}), [
            (0, ["ann"]), (1, []), (2, ["ann"]), (3, ["ann"])])
        self.assertEqual(self.run_with({"ann": 0, "bo": 0, "cy": 0, "dee": 0}), [])
        self.assertEqual(self.run_with({"a": 0}, [("a", 20)], HOURS, 10 ** 5), [])

    def test_each_number_for_each_ticket(self):
        for place, (name, left) in enumerate(QUEUE):
            for takes in range(left + 3):
                shorter = QUEUE[:place] + [(name, min(left, takes))] * (takes > 0) + QUEUE[place + 1:]
                for begin in (0, 1, 2, 9):
                    told = self.run_with({**dict(QUEUE), name: takes}, begin=begin)
                    self.assertEqual(told, plain_run(shorter, HOURS, begin))

    def test_made_halls(self):
        for queue, hours, begin in made_halls():
            takes = {name: (7 * place + left) % 23 for place, (name, left) in enumerate(queue)}
            shorter = [(name, min(left, takes[name])) for name, left in queue if takes[name]]
            self.assertEqual(self.run_with(takes, queue, hours, begin), plain_run(shorter, hours, begin))

    def test_each_is_asked_once_in_the_order_of_the_queue(self):
        for queue in (QUEUE, QUEUE[::-1], long_queue(60), [("a", 1)], []):
            asked = []

            def real(name):
                asked.append(name)
                return len(asked) % 3

            run_of(queue, HOURS, 0, real)
            self.assertEqual(asked, [name for name, left in queue])

    def test_all_are_asked_ahead_of_all_turns(self):
        done = []

        class Watched(Hours):
            def at(self, turn):
                done.append(turn)
                return Hours.at(self, turn)

        def real(name):
            done.append(name)
            return 1

        run_of(QUEUE, Watched([], 1), 0, real)
        self.assertEqual(done[:4], ["ann", "bo", "cy", "dee"])
        self.assertFalse([each for each in done[4:] if isinstance(each, str)])

    def test_no_function_is_all_that_is_left(self):
        self.assertEqual(run_of(QUEUE, HOURS, 0, None), RUN)
        self.assertEqual(run_of(QUEUE, HOURS, 0, real=lambda name: 20), RUN)

    def test_no_whole_number_from_0_on(self):
        for thing in NO_TAKES:
            self.refuses_and_keeps("NoNumber", run_of, list(QUEUE), HOURS, 0, lambda name: thing)
            self.refuses_and_keeps("NoNumber", run_of, [("a", 1)], HOURS, 10 ** 5, lambda name: thing)

    def test_nobody_is_asked_behind_it(self):
        for thing in NO_TAKES:
            for place, (wrong, left) in enumerate(QUEUE):
                asked = []

                def real(name):
                    asked.append(name)
                    return thing if name == wrong else 0

                self.refuses_and_keeps("NoNumber", run_of, list(QUEUE), HOURS, 0, real)
                self.assertEqual(asked, ["ann", "bo", "cy", "dee"][:place + 1])

    def test_nobody_is_asked_where_nobody_waits(self):
        self.assertEqual(run_of([], HOURS, 0, lambda name: None), [])

    def test_changing_the_queue_while_asked_changes_nothing(self):
        for change in (lambda queue: queue.clear(), lambda queue: queue.reverse(), lambda queue: queue.pop(0),
                       lambda queue: queue.insert(0, ("zed", 5)) if len(queue) < 9 else None):
            queue = list(QUEUE)

            def real(name):
                change(queue)
                return 20

            self.assertEqual(run_of(queue, HOURS, 0, real), RUN)


class RowsAsked(SharingCase):
    def test_ends(self):
        self.assertEqual(ends_of(RUN), {"ann": 3, "bo": 0, "cy": 5, "dee": 4})

    def test_ends_of_the_first_rows(self):
        told = [{}, {"ann": 0, "bo": 0}, {"ann": 0, "bo": 0}, {"ann": 2, "bo": 0}, {"ann": 3, "bo": 0},
                {"ann": 3, "bo": 0, "cy": 4, "dee": 4}, {"ann": 3, "bo": 0, "cy": 5, "dee": 4}]
        for many, ends in enumerate(told):
            self.assertEqual(ends_of(RUN[:many]), ends)
            self.assertIs(type(ends_of(RUN[:many])), dict)

    def test_ends_where_nobody_is_served(self):
        self.assertEqual(ends_of([(3, []), (4, [])]), {})

    def test_had(self):
        for name, told in (("ann", [0, 1, 1, 2, 3, 3, 3, 3]), ("bo", [0, 1, 1, 1, 1, 1, 1, 1]),
                           ("cy", [0, 0, 0, 0, 0, 1, 2, 2]), ("dee", [0, 0, 0, 0, 0, 1, 1, 1])):
            self.assertEqual([had_by(RUN, name, turn) for turn in range(-1, 7)], told)

    def test_had_ahead_of_all_rows_and_far_behind(self):
        later = [(turn + 50, names) for turn, names in RUN]
        for name, left in QUEUE:
            for turn in (-FAR, -1):
                self.assertEqual(had_by(RUN, name, turn), 0)
            for turn in (-FAR, -1, 0, 49):
                self.assertEqual(had_by(later, name, turn), 0)
            for turn in (55, 56, 10 ** 5, FAR):
                self.assertEqual(had_by(RUN, name, turn), left)
                self.assertEqual(had_by(later, name, turn), left)

    def test_had_of_a_name_that_no_row_serves(self):
        for name in ("zed", "an", "annn", "", "Ann"):
            for turn in (-1, 0, 3, 5, FAR):
                self.assertEqual(had_by(RUN, name, turn), 0)
        self.assertEqual(had_by(RUN[:3], "cy", FAR), 0)
        self.assertEqual(had_by([], "ann", FAR), 0)

    def test_made_halls(self):
        for queue, hours, begin in made_halls():
            run = run_of(queue, hours, begin)
            for rows in (run, run[:len(run) // 2]):
                ends = ends_of(rows)
                turns_of = {name: [turn for turn, names in rows if name in names] for name, left in queue}
                self.assertEqual(ends, {name: turns[-1] for name, turns in turns_of.items() if turns})
                for name, turns in list(turns_of.items())[:5]:
                    for turn in (begin - 1, begin, begin + len(run) // 3, begin + len(run)):
                        self.assertEqual(had_by(rows, name, turn), len([each for each in turns if each <= turn]))


def changed_rows(rows):
    """The rows of a run with one thing otherwise, in each way there is."""
    for place, (turn, names) in enumerate(rows):
        ahead, behind = rows[:place], rows[place + 1:]
        if behind:
            yield ahead + behind
        yield ahead + [(turn, names), (turn, names)] + behind
        for other in (turn - 1, turn + 1, -turn - 1, 0 if turn else 7, FAR, -FAR):
            yield ahead + [(other, names)] + behind
        if behind:
            yield ahead + [behind[0], (turn, names)] + behind[1:]
            yield ahead + [(turn, behind[0][1]), (behind[0][0], names)] + behind[1:]
        for at, name in enumerate(names):
            yield ahead + [(turn, names[:at] + names[at + 1:])] + behind
            yield ahead + [(turn, names[:at] + [name] + names[at:])] + behind
            yield ahead + [(turn, names[:at] + [name + "x"] + names[at + 1:])] + behind
            if at:
                yield ahead + [(turn, names[:at - 1] + [name, names[at - 1]] + names[at + 1:])] + behind
        for more in ("zed", "", "ann", "bo", "cy", "dee"):
            for at in range(len(names) + 1):
                yield ahead + [(turn, names[:at] + [more] + names[at:])] + behind


class Walking(SharingCase):
    def test_the_first_rows_of_a_run(self):
        for many in range(len(RUN) + 1):
            self.assertEqual(walk_run(QUEUE, HOURS, 0, RUN[:many]), LEFT[many])

    def test_no_rows(self):
        for queue in ([], [("a", 1)], QUEUE, long_queue(60)):
            for begin in (0, 3, 10 ** 5):
                self.assertEqual(walk_run(queue, HOURS, begin, []), queue)

    def test_a_row_more(self):
        for names in ([], ["ann"], ["cy"], ["zed"]):
            for turn in (6, 5, 7, 0, -1):
                self.assertIsNone(walk_run(QUEUE, HOURS, 0, RUN + [(turn, names)]))

    def test_no_row_is_due_where_the_queue_is_empty(self):
        for hours in (HOURS, Hours([(3, 0)], 1)):
            for turn in (0, 1, 2):
                self.assertIsNone(walk_run([], hours, 0, [(turn, [])]))
                self.assertIsNone(walk_run([], hours, 0, [(turn, ["ann"])]))
            self.assertEqual(walk_run([], hours, 0, []), [])

    def test_a_row_without_names_is_due_where_there_is_no_counter(self):
        self.assertEqual(walk_run([("a", 1)], Hours([(2, 0)], 1), 0, [(0, []), (1, [])]), [("a", 1)])
        self.assertIsNone(walk_run([("a", 1)], Hours([(2, 0)], 1), 0, [(0, []), (1, []), (2, [])]))
        self.assertIsNone(walk_run([("a", 1)], Hours([], 1), 0, [(0, [])]))

    def test_begin(self):
        for begin in (0, 1, 2, 3, 4, 10 ** 5):
            run = run_of(QUEUE, HOURS, begin)
            self.assertEqual(walk_run(QUEUE, HOURS, begin, run), [])
            self.assertIsNone(walk_run(QUEUE, HOURS, begin + 1, run))
            self.assertIsNone(walk_run(QUEUE, HOURS, begin, [(turn + 1, names) for turn, names in run]))
            self.assertIsNone(walk_run(QUEUE, HOURS, begin, run[1:]))

    def test_one_thing_otherwise(self):
        many = 0
        for begin in (0, 1, 2, 3, 50):
            run = run_of(QUEUE, HOURS, begin)
            for rows in changed_rows(run):
                if rows != run:
                    self.assertIsNone(walk_run(QUEUE, HOURS, begin, rows), rows)
                    many += 1
        self.assertGreater(many, 500)

    def test_what_is_wrong_later_is_seen(self):
        self.assertIsNone(walk_run(QUEUE, HOURS, 0, RUN[:5] + [(5, ["dee"])]))
        self.assertIsNone(walk_run(QUEUE, HOURS, 0, RUN[:5] + [(6, ["cy"])]))
        self.assertIsNone(walk_run(QUEUE, HOURS, 0, RUN[:5] + [(5, ["cy", "dee"])]))

    def test_another_queue_or_other_hours(self):
        self.assertIsNone(walk_run(QUEUE[1:], HOURS, 0, RUN))
        self.assertIsNone(walk_run(QUEUE[::-1], HOURS, 0, RUN))
        self.assertIsNone(walk_run(QUEUE, HOURS.more(3, 3), 0, RUN))
        self.assertIsNone(walk_run(QUEUE, HOURS.less(0, 0), 0, RUN))
        self.assertEqual(walk_run(QUEUE + [("ed", 1)], HOURS, 0, RUN[:4]), LEFT[4] + [("ed", 1)])
        self.assertIsNone(walk_run(QUEUE + [("ed", 1)], HOURS, 0, RUN[:5]))

    def test_made_halls(self):
        for queue, hours, begin in made_halls():
            run = run_of(queue, hours, begin)
            for many in (0, 1, len(run) // 2, len(run)):
                left = [(name, most - had_by(run[:many], name, FAR)) for name, most in queue]
                self.assertEqual(walk_run(queue, hours, begin, run[:many]), [each for each in left if each[1]])
            self.assertIsNone(walk_run(queue, hours, begin, run + [(begin + len(run), [])]))


class NothingIsShared(SharingCase):
    def test_point_2(self):
        for many in (0, 2, 9):
            self.shares_nothing(turn_served, lambda: (list(QUEUE), many))
        for begin in (0, 1, 7):
            self.shares_nothing(run_of, lambda: (list(QUEUE), HOURS, begin))
            self.shares_nothing(run_of, lambda: (list(QUEUE), HOURS, begin, lambda name: len(name)))
        for many in range(len(RUN) + 2):
            rows = (RUN + [(6, [])])[:many]
            self.shares_nothing(ends_of, lambda: ([(turn, list(names)) for turn, names in rows],))
            self.shares_nothing(had_by, lambda: ([(turn, list(names)) for turn, names in rows], "cy", 5))
            self.shares_nothing(
                walk_run, lambda: (list(QUEUE), HOURS, 0, [(turn, list(names)) for turn, names in rows]))

    def test_no_tickets(self):
        self.shares_nothing(turn_served, lambda: ([], 3))
        self.shares_nothing(run_of, lambda: ([], HOURS, 0))
        self.shares_nothing(walk_run, lambda: ([], HOURS, 0, []))

    def test_rows_without_names_share_no_list(self):
        run = run_of([("a", 1)], Hours([(3, 0)], 1), 0)
        run[0][1].append("zed")
        self.assertEqual(run, [(0, ["zed"]), (1, []), (2, []), (3, ["a"])])


if __name__ == "__main__":
    unittest.main()
