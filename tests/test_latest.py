"""Latest turns and their witnesses [41] to [45], and of them what points 2 to 7 say."""

import unittest

from latestturn.hours import Hours
from latestturn.latest import all_done, latest_all, latest_of, shows_latest, witness_run
from latestturn.runs import had_by, run_of, walk_run
from tests.helper import NO_NAMES, SharingCase, long_queue, made_halls, plain_run

FAR = 10 ** 30
QUEUE = [("ann", 3), ("bo", 1), ("cy", 2), ("dee", 1)]
HOURS = Hours([(1, 2), (1, 0), (2, 1)], 3)
RUN = [(0, ["ann", "bo"]), (1, []), (2, ["ann"]), (3, ["ann"]), (4, ["cy", "dee"]), (5, ["cy"])]
LATEST = {"ann": 3, "bo": 0, "cy": 5, "dee": 4}
NO_TICKETS = ["zed", "an", "annn", "a", "anna"] + NO_NAMES


def turns_of(rows, name):
    return [turn for turn, names in rows if name in names]


class LatestTurns(SharingCase):
    def test_all(self):
        self.assertEqual(latest_all(QUEUE, HOURS, 0), LATEST)
        self.assertEqual(latest_all(QUEUE, HOURS, 1), {"ann": 4, "bo": 4, "cy": 5, "dee": 5})
        self.assertEqual(latest_all(QUEUE, HOURS, 3), {"ann": 5, "bo": 4, "cy": 5, "dee": 5})
        for begin in (4, 5, 100, 10 ** 5):
            told = {"ann": begin + 2, "bo": begin, "cy": begin + 1, "dee": begin + 1}
            self.assertEqual(latest_all(QUEUE, HOURS, begin), told)

    def test_one(self):
        for begin in (0, 1, 3, 4, 10 ** 5):
            told = latest_all(QUEUE, HOURS, begin)
            self.assertEqual(list(told), ["ann", "bo", "cy", "dee"])
            for name in told:
                self.assertEqual(latest_of(QUEUE, HOURS, begin, name), told[name])

    def test_no_tickets(self):
        for begin in (0, 2, 10 ** 5):
            self.assertEqual(latest_all([], HOURS, begin), {})

    def test_one_ticket(self):
        for left in (1, 20):
            for begin in (0, 10, 10 ** 5):
                self.assertEqual(latest_all([("a", left)], Hours([], 1), begin), {"a": begin + left - 1})
                self.assertEqual(latest_of([("a", left)], Hours([], 8), begin, "a"), begin + left - 1)
            self.assertEqual(latest_of([("a", left)], Hours([(100, 0), (100, 0)], 1), 30, "a"), 199 + left)

    def test_sixty_tickets(self):
        told = latest_all(long_queue(60, 20), Hours([], 1), 7)
        self.assertEqual(told, {f"t{number}": 7 + 20 * number + 19 for number in range(60)})
        told = latest_all(long_queue(60, 1), Hours([], 8), 0)
        self.assertEqual(told, {f"t{number}": number // 8 for number in range(60)})

    def test_more_counters_than_tickets(self):
        self.assertEqual(latest_all(QUEUE, Hours([], 8), 2), {"ann": 4, "bo": 2, "cy": 3, "dee": 2})

    def test_made_halls(self):
        for queue, hours, begin in made_halls():
            told = latest_all(queue, hours, begin)
            run = plain_run(queue, hours, begin)
            self.assertEqual(told, {name: turns_of(run, name)[-1] for name, left in queue})
            for name, left in queue[:4] + queue[-1:]:
                self.assertEqual(latest_of(queue, hours, begin, name), told[name])

    def test_done_by_it_whatever_services_take(self):
        for queue, hours, begin in made_halls():
            told = latest_all(queue, hours, begin)
            run = run_of(queue, hours, begin, lambda name: (5 * len(queue) + int(name, 36)) % 9)
            for name, left in queue:
                self.assertLessEqual(max(turns_of(run, name), default=begin), told[name])

    def test_they_are_those_of_what_is_left(self):
        for queue, hours, begin in made_halls():
            told = latest_all(queue, hours, begin)
            run = run_of(queue, hours, begin)
            for many in (1, len(run) // 2, len(run)):
                if many <= len(run):
                    left = walk_run(queue, hours, begin, run[:many])
                    later = latest_all(left, hours, begin + many)
                    self.assertEqual(later, {name: told[name] for name, more in left})

    def test_no_ticket(self):
        for name in NO_TICKETS:
            self.refuses_and_keeps("NoTicket", latest_of, list(QUEUE), HOURS, 0, name, name=name)
            self.refuses_and_keeps("NoTicket", latest_of, [], HOURS, 10 ** 5, name, name=name)


class Witnesses(SharingCase):
    def test_up_to_the_latest_turn(self):
        for name, rows in (("ann", 4), ("bo", 1), ("cy", 6), ("dee", 5)):
            self.assertEqual(witness_run(QUEUE, HOURS, 0, name), RUN[:rows])

    def test_begin(self):
        self.assertEqual(witness_run(QUEUE, HOURS, 1, "bo"), [
            (1, []), (2, ["ann"]), (3, ["ann"]), (4, ["ann", "bo", "cy"])])
        self.assertEqual(witness_run(QUEUE, HOURS, 10 ** 5, "bo"), [(10 ** 5, ["ann", "bo", "cy"])])

    def test_one_ticket(self):
        self.assertEqual(witness_run([("a", 1)], Hours([(2, 0)], 1), 0, "a"), [(0, []), (1, []), (2, ["a"])])
        self.assertEqual(witness_run([("a", 20)], Hours([], 4), 3, "a"), [(turn, ["a"]) for turn in range(3, 23)])

    def test_made_halls(self):
        for queue, hours, begin in made_halls():
            run = plain_run(queue, hours, begin)
            for name, left in queue[:4] + queue[-1:]:
                rows = witness_run(queue, hours, begin, name)
                self.assertEqual(rows, run[:len(rows)])
                self.assertIn(name, rows[-1][1])
                self.assertEqual(had_by(rows, name, FAR), left)
                self.assertEqual(rows[-1][0], latest_of(queue, hours, begin, name))

    def test_no_ticket(self):
        for name in NO_TICKETS:
            self.refuses_and_keeps("NoTicket", witness_run, list(QUEUE), HOURS, 0, name, name=name)
            self.refuses_and_keeps("NoTicket", witness_run, [], HOURS, 0, name, name=name)


class Showing(SharingCase):
    def test_the_witness_shows_it(self):
        for begin in (0, 1, 3, 4, 10 ** 5):
            for name, left in QUEUE:
                rows = witness_run(QUEUE, HOURS, begin, name)
                turn = latest_of(QUEUE, HOURS, begin, name)
                self.assertIs(shows_latest(QUEUE, HOURS, begin, name, turn, rows), True)

    def test_no_other_turn(self):
        for name, latest in LATEST.items():
            rows = witness_run(QUEUE, HOURS, 0, name)
            for turn in list(range(-3, 9)) + [-FAR, 10 ** 5, FAR]:
                self.assertIs(shows_latest(QUEUE, HOURS, 0, name, turn, rows), turn == latest)

    def test_no_other_first_rows_of_the_run(self):
        for many in range(len(RUN) + 1):
            for name, latest in LATEST.items():
                for turn in range(-1, 8):
                    told = shows_latest(QUEUE, HOURS, 0, name, turn, RUN[:many])
                    self.assertIs(told, turn == latest and many == latest + 1)

    def test_no_rows(self):
        for turn in (-1, 0, 1):
            self.assertIs(shows_latest(QUEUE, HOURS, 0, "ann", turn, []), False)
            self.assertIs(shows_latest([], HOURS, 0, "ann", turn, []), False)

    def test_a_row_more(self):
        for turn in (5, 6):
            self.assertIs(shows_latest(QUEUE, HOURS, 0, "cy", turn, RUN + [(6, ["cy"])]), False)
            self.assertIs(shows_latest(QUEUE, HOURS, 0, "cy", turn, RUN + [(6, [])]), False)

    def test_served_but_not_done(self):
        for many, name, turn in ((1, "ann", 0), (3, "ann", 2), (5, "cy", 4)):
            self.assertIs(shows_latest(QUEUE, HOURS, 0, name, turn, RUN[:many]), False)

    def test_done_but_not_served_in_the_last_row(self):
        self.assertIs(shows_latest(QUEUE, HOURS, 0, "bo", 1, RUN[:2]), False)
        self.assertIs(shows_latest(QUEUE, HOURS, 0, "bo", 2, RUN[:3]), False)
        self.assertIs(shows_latest(QUEUE, HOURS, 0, "dee", 5, RUN), False)

    def test_rows_that_do_not_walk(self):
        wrong = [
            [(0, ["bo", "ann"])], [(0, ["bo"])], [(0, ["ann", "bo", "cy"])], [(0, ["ann", "bo", "bo"])],
            [(1, ["ann", "bo"])], [(0, ["ann", "bo"]), (0, ["ann", "bo"])], [(-1, []), (0, ["ann", "bo"])],
        ]
        for rows in wrong:
            for turn in (-1, 0, 1):
                self.assertIs(shows_latest(QUEUE, HOURS, 0, "bo", turn, rows), False)
        for place in range(len(RUN) - 1):
            self.assertIs(shows_latest(QUEUE, HOURS, 0, "cy", 5, RUN[:place] + RUN[place + 1:]), False)
            self.assertIs(shows_latest(QUEUE, HOURS, 0, "cy", 5, RUN[:place] + [RUN[place]] + RUN[place:]), False)

    def test_another_begin_queue_or_other_hours(self):
        self.assertIs(shows_latest(QUEUE, HOURS, 1, "cy", 5, RUN), False)
        self.assertIs(shows_latest(QUEUE[1:], HOURS, 0, "cy", 5, RUN), False)
        self.assertIs(shows_latest(QUEUE, HOURS.more(0, 0), 0, "cy", 5, RUN), False)

    def test_names_that_wait_not(self):
        for name in NO_TICKETS:
            for many in range(len(RUN) + 1):
                self.assertIs(shows_latest(QUEUE, HOURS, 0, name, many - 1, RUN[:many]), False)
            self.assertIs(shows_latest([], HOURS, 0, name, 0, []), False)

    def test_a_row_that_serves_a_name_that_waits_not(self):
        self.assertIs(shows_latest(QUEUE, HOURS, 0, "zed", 0, [(0, ["ann", "zed"])]), False)
        self.assertIs(shows_latest(QUEUE, HOURS, 0, "zed", 0, [(0, ["zed"])]), False)

    def test_made_halls(self):
        for queue, hours, begin in made_halls():
            run = run_of(queue, hours, begin)
            for name, left in queue[:2] + queue[-1:]:
                latest = turns_of(run, name)[-1]
                for turn in (latest - 1, latest, latest + 1):
                    for rows in (run, run[:turn - begin + 1]):
                        told = shows_latest(queue, hours, begin, name, turn, rows)
                        self.assertIs(told, turn == latest and len(rows) == latest - begin + 1)


class AllDone(SharingCase):
    def test_last_turn(self):
        for begin, last in ((0, 5), (1, 5), (3, 5), (4, 6), (10 ** 5, 10 ** 5 + 2)):
            self.assertEqual(all_done(QUEUE, HOURS, begin), last)

    def test_no_tickets(self):
        for begin in (0, 1, 4, 10 ** 5):
            self.assertEqual(all_done([], HOURS, begin), begin - 1)

    def test_sixty_tickets(self):
        self.assertEqual(all_done(long_queue(60, 20), Hours([], 1), 0), 1199)
        self.assertEqual(all_done(long_queue(60, 20), Hours([(100, 0)] * 16, 1), 0), 2799)
        self.assertEqual(all_done(long_queue(60, 1), Hours([], 8), 0), 7)

    def test_made_halls(self):
        for queue, hours, begin in made_halls():
            latest = latest_all(queue, hours, begin)
            self.assertEqual(all_done(queue, hours, begin), max(latest.values(), default=begin - 1))


class WhoStandsBehind(SharingCase):
    def test_makes_no_difference(self):
        for queue, hours, begin in made_halls():
            latest = latest_all(queue, hours, begin)
            run = run_of(queue, hours, begin)
            for many in sorted({1, 2, len(queue) // 2, len(queue) - 1} & set(range(1, len(queue)))):
                ahead = queue[:many]
                others = [(f"x{left}of{place}", 21 - left) for place, (name, left) in enumerate(queue[many:])]
                for other in (ahead, ahead + queue[:many - 1:-1], ahead + others):
                    self.assertEqual(list(latest_all(other, hours, begin).items())[:many], list(latest.items())[:many])
                    other_run = run_of(other, hours, begin)
                    for name, left in ahead[:3] + ahead[-1:]:
                        self.assertEqual(latest_of(other, hours, begin, name), latest[name])
                        self.assertEqual(turns_of(other_run, name), turns_of(run, name))


class NothingIsShared(SharingCase):
    def test_point_2(self):
        for begin in (0, 1, 10 ** 5):
            self.shares_nothing(latest_all, lambda: (list(QUEUE), HOURS, begin))
            self.shares_nothing(all_done, lambda: (list(QUEUE), HOURS, begin))
            for name, left in QUEUE:
                self.shares_nothing(latest_of, lambda: (list(QUEUE), HOURS, begin, name))
                self.shares_nothing(witness_run, lambda: (list(QUEUE), HOURS, begin, name))
        self.shares_nothing(latest_all, lambda: ([], HOURS, 0))
        for many in range(len(RUN) + 1):
            rows = RUN[:many]
            self.shares_nothing(
                shows_latest, lambda: (list(QUEUE), HOURS, 0, "cy", 5, [(turn, list(names)) for turn, names in rows]))


if __name__ == "__main__":
    unittest.main()
