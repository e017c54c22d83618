"""Why somebody waits: points [91] to [94], and of them what points 2 to 7 say."""

import unittest

from latestturn.hours import Hours
from latestturn.latest import latest_all
from latestturn.why import shows_why, tolls_of, waits_of
from tests.helper import NO_NAMES, SharingCase, frozen, long_queue, made_halls, plain_run

# By these hours, from turn 0 on: ann and bo, none, ann, ann, cy and dee, cy.
QUEUE = [("ann", 3), ("bo", 1), ("cy", 2), ("dee", 1)]
HOURS = Hours([(1, 2), (1, 0), (2, 1)], 3)
WAITS = {
    "ann": [(1, [])],
    "bo": [],
    "cy": [(0, ["ann", "bo"]), (1, []), (2, ["ann"]), (3, ["ann"])],
    "dee": [(0, ["ann", "bo"]), (1, []), (2, ["ann"]), (3, ["ann"])],
}
NO_TICKETS = NO_NAMES + ["zed", "an", "annn", "b", "a1"]


def plain_waits(queue, hours, begin, name):
    """The waits, told another way: by the run of those alone who stand no farther behind."""
    place = [other for other, left in queue].index(name)
    run = plain_run(queue[:place + 1], hours, begin)
    latest = max(turn for turn, names in run if name in names)
    served = {turn: plain_served for turn, plain_served in plain_run(queue, hours, begin)}
    return [(turn, served[turn]) for turn, names in run if turn <= latest and name not in names]


class Waits(SharingCase):
    def test_91_the_turns_at_which_a_ticket_is_not_served(self):
        for name, waits in WAITS.items():
            told = waits_of(QUEUE, HOURS, 0, name)
            self.assertEqual(told, waits)
            self.assertEqual([type(told)] + [type(row) for row in told], [list] + [tuple] * len(told))
            self.assertEqual([type(names) for turn, names in told], [list] * len(told))

    def test_91_begin_counts(self):
        self.assertEqual(waits_of(QUEUE, HOURS, 1, "ann"), [(1, [])])
        self.assertEqual(waits_of(QUEUE, HOURS, 2, "bo"), [(2, ["ann"]), (3, ["ann"])])
        self.assertEqual(waits_of(QUEUE, HOURS, 4, "dee"), [(4, ["ann", "bo", "cy"])])
        self.assertEqual(waits_of(QUEUE, HOURS, 10 ** 5, "dee"), [(10 ** 5, ["ann", "bo", "cy"])])

    def test_91_waits_between_turns_of_service(self):
        queue, hours = [("ann", 2), ("bo", 3)], Hours([(1, 2), (2, 1), (2, 0)], 1)
        self.assertEqual(waits_of(queue, hours, 0, "bo"), [(1, ["ann"]), (3, []), (4, [])])

    def test_91_nobody_waits_behind_the_latest_turn(self):
        queue = [("ann", 1), ("bo", 1), ("cy", 1)]
        self.assertEqual(waits_of(queue, Hours([], 1), 3, "ann"), [])
        self.assertEqual(waits_of(queue, Hours([], 1), 3, "bo"), [(3, ["ann"])])
        self.assertEqual(waits_of(queue, Hours([], 3), 3, "cy"), [])

    def test_91_no_ticket(self):
        for thing in NO_TICKETS:
            self.refuses_and_keeps("NoTicket", waits_of, QUEUE, HOURS, 0, thing, name=thing)
            self.refuses_and_keeps("NoTicket", waits_of, [], HOURS, 0, thing, name=thing)

    def test_91_made_halls(self):
        for queue, hours, begin in made_halls():
            for name, left in queue[:12] + queue[-2:]:
                self.assertEqual(waits_of(queue, hours, begin, name), plain_waits(queue, hours, begin, name))

    def test_92_those_ahead_are_served_at_all_counters(self):
        for queue, hours, begin in made_halls():
            latest = latest_all(queue, hours, begin)
            names = [name for name, left in queue]
            for place, (name, left) in list(enumerate(queue))[:12]:
                waits = waits_of(queue, hours, begin, name)
                self.assertEqual(latest[name], begin + left + len(waits) - 1)
                self.assertEqual([turn for turn, served in waits], sorted({turn for turn, served in waits}))
                for turn, served in waits:
                    self.assertEqual(len(served), hours.at(turn))
                    self.assertEqual(served, [other for other in names[:place] if other in served])

    def test_91_sixty_tickets(self):
        waits = waits_of(long_queue(60, 20), Hours([], 1), 7, "t59")
        self.assertEqual(waits, [(7 + turn, [f"t{turn // 20}"]) for turn in range(1180)])


class Tolls(SharingCase):
    def test_93_how_often_and_until_when_each_is_served(self):
        self.assertEqual(tolls_of(QUEUE, HOURS, 0, "ann"), [])
        self.assertEqual(tolls_of(QUEUE, HOURS, 0, "bo"), [])
        for name in ("cy", "dee"):
            self.assertEqual(tolls_of(QUEUE, HOURS, 0, name), [("ann", 3, 3), ("bo", 1, 0)])
        self.assertEqual(tolls_of(QUEUE, HOURS, 4, "dee"), [("ann", 1, 4), ("bo", 1, 4), ("cy", 1, 4)])

    def test_93_only_in_rows_of_the_waits(self):
        queue, hours = [("ann", 4), ("bo", 2)], Hours([(1, 2), (1, 1), (1, 2)], 1)
        self.assertEqual(waits_of(queue, hours, 0, "bo"), [(1, ["ann"])])
        self.assertEqual(tolls_of(queue, hours, 0, "bo"), [("ann", 1, 1)])

    def test_93_in_the_order_of_rank(self):
        queue = [("zed", 1), ("ann", 2), ("mia", 1), ("bo", 1)]
        self.assertEqual(tolls_of(queue, Hours([], 1), 5, "bo"), [("zed", 1, 5), ("ann", 2, 7), ("mia", 1, 8)])

    def test_93_kinds(self):
        told = tolls_of(QUEUE, HOURS, 0, "cy")
        self.assertIs(type(told), list)
        self.assertEqual([[type(part) for part in toll] for toll in told], [[str, int, int]] * 2)
        self.assertEqual([type(toll) for toll in told], [tuple] * 2)

    def test_93_no_ticket(self):
        for thing in NO_TICKETS:
            self.refuses_and_keeps("NoTicket", tolls_of, QUEUE, HOURS, 0, thing, name=thing)
            self.refuses_and_keeps("NoTicket", tolls_of, [], HOURS, 0, thing, name=thing)

    def test_93_made_halls(self):
        for queue, hours, begin in made_halls():
            for name, left in queue[:9] + queue[-2:]:
                waits = plain_waits(queue, hours, begin, name)
                due = []
                for other, other_left in queue:
                    turns = [turn for turn, names in waits if other in names]
                    if turns:
                        due.append((other, len(turns), turns[-1]))
                told = tolls_of(queue, hours, begin, name)
                self.assertEqual(told, due)
                self.assertEqual(sum(turns for other, turns, last in told),
                                 sum(hours.at(turn) for turn, names in waits))


class Showing(SharingCase):
    def test_94_the_waits_show_it(self):
        for name, waits in WAITS.items():
            for asked, due in WAITS.items():
                self.assertIs(shows_why(QUEUE, HOURS, 0, asked, waits), waits == due)

    def test_94_rows_with_one_thing_otherwise(self):
        waits = WAITS["cy"]
        others = [waits[:place] + waits[place + 1:] for place in range(4)]
        others += [waits[:place] + [row] + waits[place:] for place in range(5) for row in (waits[0], (4, ["ann"]))]
        others += [waits[:place] + [(turn + by, names)] + waits[place + 1:]
                   for place, (turn, names) in enumerate(waits) for by in (-1, 1, 100)]
        others += [waits[:place] + [(turn, other)] + waits[place + 1:]
                   for place, (turn, names) in enumerate(waits)
                   for other in (names + ["cy"], names + ["dee"], names[:-1] + ["zed"], names[::-1] + [""], ["bo"])]
        others += [[(0, ["bo", "ann"])] + waits[1:], [(0, ["ann"])] + waits[1:],
                   [(0, ["ann", "ann", "bo"])] + waits[1:], waits[:3], waits[1:], waits[::-1], waits + waits, []]
        for rows in others:
            self.assertNotEqual(rows, waits)
            self.assertIs(shows_why(QUEUE, HOURS, 0, "cy", rows), False, rows)
        self.assertIs(shows_why(QUEUE, HOURS, 0, "cy", [(turn, list(names)) for turn, names in waits]), True)

    def test_94_by_the_queue_the_hours_and_the_turn(self):
        waits = WAITS["cy"]
        self.assertIs(shows_why(QUEUE, HOURS, 1, "cy", waits), False)
        self.assertIs(shows_why(QUEUE, HOURS.more(9, 9), 0, "cy", waits), True)
        self.assertIs(shows_why(QUEUE, HOURS.more(1, 1), 0, "cy", waits), False)
        self.assertIs(shows_why([("ann", 2)] + QUEUE[1:], HOURS, 0, "cy", waits), False)
        self.assertIs(shows_why(QUEUE[:3], HOURS, 0, "cy", waits), True)

    def test_94_no_rows(self):
        self.assertIs(shows_why(QUEUE, HOURS, 0, "bo", []), True)
        self.assertIs(shows_why(QUEUE, HOURS, 0, "ann", []), False)

    def test_94_no_ticket(self):
        for thing in NO_TICKETS:
            for rows in ([], WAITS["cy"], [(0, ["zed"])]):
                self.refuses_and_keeps("NoTicket", shows_why, QUEUE, HOURS, 0, thing, rows, name=thing)
                self.refuses_and_keeps("NoTicket", shows_why, [], HOURS, 0, thing, rows, name=thing)


class NothingIsShared(SharingCase):
    def test_2_waits_and_tolls(self):
        for name in WAITS:
            for call in (waits_of, tolls_of):
                self.shares_nothing(call, lambda: (list(QUEUE), HOURS, 0, name))

    def test_2_rows_that_are_handed_in(self):
        for name, waits in WAITS.items():
            self.shares_nothing(shows_why, lambda: (list(QUEUE), HOURS, 0, name,
                                                    [(turn, list(names)) for turn, names in waits]))
            before = frozen(waits)
            shows_why(QUEUE, HOURS, 0, "cy", waits)
            self.assertEqual(frozen(waits), before)


if __name__ == "__main__":
    unittest.main()
