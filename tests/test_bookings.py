"""Bookings [64] and [65], and of them what points 2 to 7 say."""

import unittest

from latestturn.bookings import ask_booking, first_booking
from latestturn.hours import Hours
from latestturn.latest import latest_all
from tests.helper import NO_NUMBERS, Rule, VerdictCase, frozen, long_queue, made_halls, plain_run, plainly_late

FAR = 10 ** 30
LAST_TURN = 10 ** 5
ONE = Hours([], 1)

# By these hours, from turn 0 on: ann and bo, none, ann, ann, cy and dee, cy.
QUEUE = [("ann", 3), ("bo", 1), ("cy", 2), ("dee", 1)]
HOURS = Hours([(1, 2), (1, 0), (2, 1)], 3)
LATEST = {"ann": 3, "bo": 0, "cy": 5, "dee": 4}
PROMISES = [{}, LATEST, {"ann": 2}, {"cy": 4}, {"ann": -FAR, "bo": FAR}, {"zed": -1}]


def promised(**numbers):
    """The promises that are just kept, but for those told here."""
    return {**LATEST, **numbers}


class FewerCounters:
    """Hours with one counter less from first to last, told another way."""

    def __init__(self, hours, first, last):
        self.hours, self.first, self.last = hours, first, last

    def at(self, turn):
        return self.hours.at(turn) - (self.first <= turn <= self.last)


def plainly_booked(queue, hours, begin, promises, first, last):
    """What the verdict of a booking tells, told another way."""
    for turn in range(first, last + 1):
        if hours.at(turn) == 0:
            return ("no counter", turn)
    return plainly_late(queue, FewerCounters(hours, first, last), begin, promises) or ("granted",)


class BookingCase(VerdictCase):
    def is_verdict(self, verdict, queue, hours, begin, promises, first, last):
        """The verdict is the one that point 64 asks for, is of what it ought to be, and holds."""
        told = plainly_booked(queue, hours, begin, promises, first, last)
        if told[0] == "granted":
            self.is_granted(verdict, queue, hours.less(first, last), begin)
        elif told[0] == "no counter":
            self.is_no_room(verdict, told[1], queue, hours, begin)
        else:
            self.is_late(verdict, *told[1:], queue, hours.less(first, last), begin)
        self.holds_with(verdict, promises, True)
        return told

    def books(self, queue, hours, begin, promises, first, last):
        """Asks, and tells what the verdict tells."""
        verdict = ask_booking(queue, hours, begin, promises, first, last)
        return self.is_verdict(verdict, queue, hours, begin, promises, first, last)

    def finds(self, queue, hours, begin, promises, start, many):
        """Looks for the first booking, and tells it and what the verdicts tell."""
        found = first_booking(queue, hours, begin, promises, start, many)
        self.assertIs(type(found), tuple)
        first, verdicts = found
        self.assertIs(type(first), int)
        self.assertIs(type(verdicts), list)
        self.assertEqual(len(verdicts), first - start)
        told = [self.is_verdict(verdict, queue, hours, begin, promises, turn, turn + many - 1)
                for turn, verdict in enumerate(verdicts, start)]
        self.assertNotIn(("granted",), told)
        self.assertEqual(plainly_booked(queue, hours, begin, promises, first, first + many - 1), ("granted",))
        return first, told


class Asking(BookingCase):
    def test_granted(self):
        for promises in ({}, promised(ann=4), {"zed": -FAR}):
            verdict = ask_booking(QUEUE, HOURS, 0, promises, 3, 3)
            self.is_granted(verdict, QUEUE, Hours([(1, 2), (1, 0), (1, 1), (1, 0)], 3), 0)
            self.holds_with(verdict, promises, True)

    def test_late(self):
        verdict = ask_booking(QUEUE, HOURS, 0, promised(zed=0), 3, 4)
        hours = Hours([(1, 2), (1, 0), (1, 1), (1, 0), (1, 2)], 3)
        run = [(0, ["ann", "bo"]), (1, []), (2, ["ann"]), (3, []), (4, ["ann", "cy"]), (5, ["cy", "dee"])]
        self.is_late(verdict, "ann", 3, 4, run, QUEUE, hours, 0)
        self.holds_with(verdict, promised(zed=0), True)

    def test_no_counter(self):
        verdict = ask_booking(QUEUE, HOURS, 0, LATEST, 0, 2)
        self.is_no_room(verdict, 1, QUEUE, HOURS, 0)
        self.holds_with(verdict, LATEST, True)

    def test_a_turn_without_a_counter_first_amid_and_last(self):
        hours = Hours([(5, 1), (1, 0)], 1)
        for first, last in ((5, 5), (5, 8), (3, 7), (4, 6), (4, 5), (0, 5)):
            self.assertEqual(self.books(QUEUE, hours, 0, {}, first, last), ("no counter", 5))
            self.assertEqual(self.books([], hours, 3, {}, max(first, 3), last), ("no counter", 5))
        for first, last in ((0, 4), (6, 9), (4, 4), (6, 6)):
            self.assertEqual(self.books(QUEUE, hours, 0, {}, first, last), ("granted",))

    def test_several_turns_without_a_counter(self):
        hours = Hours([(2, 1), (2, 0), (2, 1), (3, 0)], 2)
        for first, due in enumerate((2, 2, 2, 3, 6, 6, 6, 7, 8)):
            self.assertEqual(self.books(QUEUE, hours, 0, {}, first, 10), ("no counter", due))

    def test_turns_ahead_of_the_booking_may_have_no_counter(self):
        self.assertEqual(self.books(QUEUE, HOURS, 0, {}, 2, 2), ("granted",))
        self.assertEqual(self.books(QUEUE, HOURS, 0, {}, 0, 0), ("granted",))

    def test_no_counter_goes_ahead_of_late(self):
        for promises in PROMISES + [{"ann": -1}, {"dee": -FAR}]:
            self.assertEqual(self.books(QUEUE, HOURS, 0, promises, 0, 1), ("no counter", 1))

    def test_just_kept_and_missed_by_one(self):
        # With a counter less at the turns 3 and 4 ann is done at 4, bo at 0, cy and dee at 5.
        for name, turn in (("ann", 4), ("bo", 0), ("cy", 5), ("dee", 5)):
            self.assertEqual(self.books(QUEUE, HOURS, 0, {name: turn}, 3, 4), ("granted",))
            self.assertEqual(self.books(QUEUE, HOURS, 0, {name: turn - 1}, 3, 4)[:4], ("late", name, turn - 1, turn))
            kept = {"ann": 4, "bo": 0, "cy": 5, "dee": 5}
            self.assertEqual(self.books(QUEUE, HOURS, 0, kept, 3, 4), ("granted",))
            kept[name] = turn - 1
            self.assertEqual(self.books(QUEUE, HOURS, 0, kept, 3, 4)[:4], ("late", name, turn - 1, turn))

    def test_the_first_late_one_by_rank(self):
        # With a counter less at turn 6 dee is done ahead of cy; with one less from 3 on, ann is done at 4.
        self.assertEqual(self.books(QUEUE, HOURS, 0, {"dee": 0, "cy": 0}, 6, 6)[1], "cy")
        self.assertEqual(self.books(QUEUE, HOURS, 0, {"dee": 0, "cy": 0}, 3, 6)[1], "cy")
        self.assertEqual(self.books(QUEUE, HOURS, 0, {"dee": 0, "cy": 0, "ann": 4}, 3, 6)[1], "cy")
        self.assertEqual(self.books(QUEUE, HOURS, 0, {"dee": 0, "cy": 5, "ann": 4}, 3, 6)[1], "dee")
        self.assertEqual(self.books(QUEUE, HOURS, 0, {"dee": 0, "cy": 0, "ann": 0}, 3, 6)[1], "ann")

    def test_promises_of_nobody_and_of_no_tickets(self):
        for name in ("zed", "an", "annn", ""):
            self.assertEqual(self.books(QUEUE, HOURS, 0, {name: -FAR}, 2, 9), ("granted",))
            self.assertEqual(self.books([], HOURS, 0, {name: -FAR}, 2, 9), ("granted",))
            self.assertEqual(self.books(QUEUE, HOURS, 0, promised(**{name: -1}), 6, 9), ("granted",))

    def test_no_tickets(self):
        for promises in PROMISES:
            self.assertEqual(self.books([], HOURS, 0, promises, 2, 51), ("granted",))
            self.assertEqual(self.books([], HOURS, 0, promises, 1, 50), ("no counter", 1))

    def test_promises_that_do_not_hold_as_it_is_are_late(self):
        for name, turn in LATEST.items():
            told = self.books(QUEUE, HOURS, 0, promised(**{name: turn - 1}), 9, 9)
            self.assertEqual(told, ("late", name, turn - 1, turn, plain_run(QUEUE, HOURS, 0)))

    def test_first_from_begin_on(self):
        for begin in (0, 2, 3, 7, LAST_TURN - 1, LAST_TURN):
            self.assertEqual(self.books(QUEUE, ONE, begin, {}, begin, begin), ("granted",))
            told = self.books(QUEUE, ONE, begin, {"ann": begin + 2}, begin, begin)
            self.assertEqual(told[:4], ("late", "ann", begin + 2, begin + 3))
        for begin in (1, 2, 7, LAST_TURN):
            for first in (begin - 1, 0, -1, -FAR):
                self.refuses_and_keeps("NoNumber", ask_booking, QUEUE, ONE, begin, {}, first, begin)

    def test_begin_counts(self):
        # From turn 1 on ann is served at 2, 3 and 4, and from 4 on three counters are there.
        self.assertEqual(self.books(QUEUE, HOURS, 1, {"ann": 4, "bo": 4, "cy": 5, "dee": 5}, 7, 7), ("granted",))
        self.assertEqual(self.books(QUEUE, HOURS, 1, {"ann": 3}, 7, 7)[:4], ("late", "ann", 3, 4))

    def test_the_greatest_turn(self):
        for first in (LAST_TURN, LAST_TURN - 1, LAST_TURN - 49):
            self.assertEqual(self.books(QUEUE, HOURS, 0, LATEST, first, LAST_TURN), ("granted",))
            self.assertEqual(self.books(QUEUE, HOURS, 0, LATEST, first, first), ("granted",))
        for first, last in ((LAST_TURN, LAST_TURN + 1), (LAST_TURN - 3, LAST_TURN + 1), (LAST_TURN + 1, LAST_TURN + 1),
                            (LAST_TURN + 1, LAST_TURN + 2), (LAST_TURN + 1, LAST_TURN), (FAR, FAR), (5, FAR)):
            self.refuses_and_keeps("NoNumber", ask_booking, QUEUE, HOURS, 0, {}, first, last)

    def test_fifty_turns_and_fifty_one(self):
        for first in (0, 4, 1000, LAST_TURN - 49):
            self.assertEqual(self.books([("ann", 2)], ONE, 0, {"ann": FAR}, first, first + 49), ("granted",))
        for first in (0, 4, 1000, LAST_TURN - 50):
            for last in (first + 50, first + 51, LAST_TURN):
                self.refuses_and_keeps("NoNumber", ask_booking, [("ann", 2)], ONE, 0, {}, first, last)
        self.assertEqual(self.books([("ann", 2)], ONE, 0, {"ann": 50}, 0, 49)[:4], ("late", "ann", 50, 51))

    def test_one_turn_and_a_last_ahead_of_first(self):
        for first in (2, 5, 60, LAST_TURN):
            self.assertEqual(self.books(QUEUE, HOURS, 2, {}, first, first), ("granted",))
            for last in (first - 1, first - 2, 0, -1, -FAR):
                self.refuses_and_keeps("NoNumber", ask_booking, QUEUE, HOURS, 2, {}, first, last)

    def test_no_whole_numbers(self):
        for thing in NO_NUMBERS:
            for other in (0, 1, 9, LAST_TURN):
                self.refuses_and_keeps("NoNumber", ask_booking, QUEUE, HOURS, 0, LATEST, thing, other)
                self.refuses_and_keeps("NoNumber", ask_booking, QUEUE, HOURS, 0, LATEST, other, thing)
                self.refuses_and_keeps("NoNumber", ask_booking, QUEUE, HOURS, 1, LATEST, other, thing)
            self.refuses_and_keeps("NoNumber", ask_booking, QUEUE, HOURS, 0, LATEST, thing, thing)

    def test_the_refusal_goes_ahead_of_every_verdict(self):
        hours = Hours([(3, 0)], 1)
        for promises in ({}, {"ann": -1}):
            for first, last in ((0, 50), (1, 0), (-1, 2), (True, 2), (0, None)):
                self.refuses_and_keeps("NoNumber", ask_booking, QUEUE, hours, 0, promises, first, last)
                self.refuses_and_keeps("NoNumber", ask_booking, [], hours, 0, promises, first, last)

    def test_hours_that_are_told_by_others(self):
        hours = ONE.less(7, 9).more(20, 21)
        self.assertEqual(self.books([("a", 9)], hours, 0, {"a": 11}, 21, 21), ("granted",))
        self.assertEqual(self.books([("a", 9)], hours, 0, {"a": 11}, 11, 22)[:4], ("late", "a", 11, 20))
        self.assertEqual(self.books([("a", 9)], hours, 0, {"a": 11}, 6, 11), ("no counter", 7))

    def test_made_halls(self):
        rule = Rule(64)
        seen = {"granted": 0, "no counter": 0, "late": 0}
        for queue, hours, begin in made_halls():
            promises = rule.promises(latest_all(queue, hours, begin))
            for later in (0, 1 + rule.below(12)):
                first = min(LAST_TURN, begin + later)
                last = min(LAST_TURN, first + rule.one_of([0, 1, 4, 49]))
                seen[self.books(queue, hours, begin, promises, first, last)[0]] += 1
        self.assertGreater(min(seen.values()), 40)


class Looking(BookingCase):
    def test_ordinary(self):
        first, verdicts = first_booking(QUEUE, HOURS, 0, LATEST, 0, 2)
        self.assertEqual(first, 4)
        self.assertEqual([verdict.told()[:4] for verdict in verdicts],
                         [("no counter", 1), ("no counter", 1), ("late", "ann", 3, 5), ("late", "ann", 3, 4)])
        self.finds(QUEUE, HOURS, 0, LATEST, 0, 2)

    def test_at_start_itself(self):
        for start, many in ((4, 1), (5, 2), (6, 50), (6, 1), (0, 1)):
            self.assertEqual(self.finds(QUEUE, HOURS, 0, {}, start, many), (start, []))
        self.assertEqual(self.finds(QUEUE, HOURS, 0, {"dee": 4, "ann": 3}, 5, 1), (5, []))

    def test_the_least_of_those_that_will_do(self):
        queue, hours = [("a", 1), ("b", 1), ("c", 1), ("d", 1)], Hours([(2, 1), (1, 2)], 1)
        promises = {"a": 0, "b": 1, "c": 2, "d": 2}
        self.assertEqual([self.books(queue, hours, 0, promises, turn, turn)[0] for turn in range(5)],
                         ["late", "late", "late", "granted", "granted"])
        self.assertEqual(self.finds(queue, hours, 0, promises, 0, 1)[0], 3)
        hours = Hours([(2, 1), (1, 3)], 1)
        self.assertEqual([self.books(queue, hours, 0, promises, turn, turn)[0] for turn in range(5)],
                         ["late", "late", "granted", "granted", "granted"])
        self.assertEqual(self.finds(queue, hours, 0, promises, 0, 1)[0], 2)

    def test_one_that_will_do_ahead_of_some_that_will_not(self):
        queue, hours = [("a", 3)], Hours([(1, 2), (1, 1)], 2)
        hours = hours.less(2, 2)
        promises = {"a": 2}
        self.assertEqual([self.books(queue, hours, 0, promises, turn, turn)[0] for turn in range(4)],
                         ["granted", "late", "late", "granted"])
        self.assertEqual(self.finds(queue, hours, 0, promises, 0, 1), (0, []))
        first, told = self.finds(queue, hours, 0, promises, 1, 1)
        self.assertEqual((first, [each[:4] for each in told]), (3, [("late", "a", 2, 3)] * 2))

    def test_behind_the_last_row_of_the_run(self):
        first, told = self.finds([("a", 20), ("b", 20)], ONE, 0, {"a": 19, "b": 39}, 0, 1)
        self.assertEqual(first, 40)
        self.assertEqual([each[:4] for each in told],
                         [("late", "a", 19, 20)] * 20 + [("late", "b", 39, 40)] * 20)
        for many in (2, 50):
            self.assertEqual(self.finds([("a", 20), ("b", 20)], ONE, 0, {"b": 39}, 0, many)[0], 40)

    def test_behind_the_end_of_the_hours(self):
        hours = Hours([(9, 1), (1, 0)] * 3, 1)
        for many in (10, 50):
            first, told = self.finds([], hours, 0, {}, 0, many)
            self.assertEqual(first, 30)
            self.assertEqual(told, [("no counter", turn // 10 * 10 + 9) for turn in range(30)])
        self.assertEqual(self.finds([], hours, 0, {}, 0, 9), (0, []))
        self.assertEqual(self.finds([], hours, 0, {}, 1, 9)[0], 10)

    def test_behind_both(self):
        hours = Hours([(100, 0)] * 4 + [(99, 0), (1, 1)], 1)
        first, told = self.finds([("a", 2)], hours, 0, {"a": 500}, 0, 1)
        self.assertEqual(first, 501)
        self.assertEqual(told[:499], [("no counter", turn) for turn in range(499)])
        self.assertEqual([each[:4] for each in told[499:]], [("late", "a", 500, 501)] * 2)

    def test_start_from_begin_on(self):
        for begin in (0, 3, 500):
            self.assertEqual(self.finds(QUEUE, HOURS, begin, {}, begin, 1)[0], begin)
            self.assertEqual(self.finds([("a", 2)], ONE, begin, {"a": begin + 1}, begin, 3)[0], begin + 2)
            for start in (begin - 1, -1, -FAR):
                self.refuses_and_keeps("NoNumber", first_booking, QUEUE, HOURS, begin, {}, start, 1)

    def test_begin_counts(self):
        self.assertEqual(self.finds([("a", 2)], ONE, 2, {"a": 3}, 3, 1)[0], 4)
        self.assertEqual(self.finds([("a", 2)], ONE, 0, {"a": 1}, 3, 1), (3, []))

    def test_the_greatest_start(self):
        for many in (1, 2, 50):
            self.assertEqual(self.finds(QUEUE, HOURS, 0, LATEST, LAST_TURN, many), (LAST_TURN, []))
            self.assertEqual(self.finds([], HOURS, 500, {}, LAST_TURN, many), (LAST_TURN, []))
            for start in (LAST_TURN + 1, LAST_TURN + 50, FAR):
                self.refuses_and_keeps("NoNumber", first_booking, QUEUE, HOURS, 0, LATEST, start, many)

    def test_many_from_one_to_fifty(self):
        for many in (1, 50):
            self.assertEqual(self.finds([("a", 2)], ONE, 0, {"a": 2 + many}, 0, many)[0], 0)
            self.assertEqual(self.finds([("a", 2)], ONE, 0, {"a": many}, 0, many)[0], 2)
        for many in (0, -1, 51, 52, FAR, -FAR):
            self.refuses_and_keeps("NoNumber", first_booking, QUEUE, HOURS, 0, LATEST, 0, many)
            self.refuses_and_keeps("NoNumber", first_booking, [], HOURS, 0, {}, LAST_TURN, many)

    def test_no_whole_numbers(self):
        for thing in NO_NUMBERS:
            for promises in (LATEST, {"ann": -1}):
                self.refuses_and_keeps("NoNumber", first_booking, QUEUE, HOURS, 0, promises, thing, 1)
                self.refuses_and_keeps("NoNumber", first_booking, QUEUE, HOURS, 0, promises, 0, thing)
                self.refuses_and_keeps("NoNumber", first_booking, QUEUE, HOURS, 0, promises, thing, thing)

    def test_no_number_goes_ahead_of_not_kept(self):
        for start, many in ((-1, 1), (LAST_TURN + 1, 1), (0, 0), (0, 51), (None, 1), (0, True)):
            self.refuses_and_keeps("NoNumber", first_booking, QUEUE, HOURS, 0, {"ann": 2}, start, many)

    def test_not_kept(self):
        for name, turn in LATEST.items():
            for number in (turn - 1, -FAR):
                for promises in ({name: number}, promised(**{name: number})):
                    self.refuses_and_keeps("NotKept", first_booking, QUEUE, HOURS, 0, promises, 0, 1, name=name)
                    self.refuses_and_keeps("NotKept", first_booking, QUEUE, HOURS, 0, promises, LAST_TURN, 50,
                                           name=name)

    def test_not_kept_of_the_first_by_rank(self):
        promises = {}
        for name in ("dee", "cy", "bo", "ann"):
            promises[name] = -1
            self.refuses_and_keeps("NotKept", first_booking, QUEUE, HOURS, 0, promises, 0, 1, name=name)

    def test_not_kept_is_of_the_hours_as_they_are(self):
        # By the hours themselves cy is done at 5; with any counter less it would be so too.
        self.refuses_and_keeps("NotKept", first_booking, QUEUE, HOURS, 0, promised(cy=4), 9, 1, name="cy")
        self.refuses_and_keeps("NotKept", first_booking, QUEUE, HOURS, 1, LATEST, 1, 1, name="ann")

    def test_promises_of_nobody_and_of_no_tickets(self):
        for name in ("zed", "an", ""):
            self.assertEqual(self.finds(QUEUE, HOURS, 0, {name: -FAR}, 2, 9), (2, []))
            self.assertEqual(self.finds([], HOURS, 0, {name: -FAR}, 2, 9), (2, []))
        for promises in PROMISES:
            self.assertEqual(self.finds([], HOURS, 0, promises, 1, 3), (2, [("no counter", 1)]))

    def test_each_verdict_is_the_one_that_asking_tells(self):
        first, verdicts = first_booking(QUEUE, HOURS, 0, LATEST, 0, 3)
        self.assertEqual(first, 4)
        for turn, verdict in enumerate(verdicts):
            asked = ask_booking(QUEUE, HOURS, 0, LATEST, turn, turn + 2)
            self.assertEqual(frozen(verdict), frozen(asked))
            self.assertIs(asked.granted(), False)
        self.assertIs(ask_booking(QUEUE, HOURS, 0, LATEST, 4, 6).granted(), True)

    def test_made_halls(self):
        rule = Rule(65)
        seen = {"no counter": 0, "late": 0, "NotKept": 0}
        found = {"at start": 0, "later": 0}
        for queue, hours, begin in made_halls():
            if begin > 500 or sum(left for name, left in queue) > 200:
                continue
            latest = latest_all(queue, hours, begin)
            promises = rule.one_of([rule.kept_promises, rule.kept_promises, rule.promises])(latest)
            start = begin + rule.below(4) * rule.below(8)
            many = rule.one_of([1, 2, 5, 50])
            late = plainly_late(queue, hours, begin, promises)
            if late:
                call = (queue, hours, begin, promises, start, many)
                self.refuses_and_keeps("NotKept", first_booking, *call, name=late[1])
                seen["NotKept"] += 1
            else:
                first, told = self.finds(queue, hours, begin, promises, start, many)
                found["at start" if first == start else "later"] += 1
                for each in told:
                    seen[each[0]] += 1
        self.assertGreater(min(seen.values()), 40)
        self.assertGreater(min(found.values()), 40)

    def test_as_much_as_is_promised(self):
        hours = Hours([(100, 0), (60, 1)] * 2 + [(80, 0), (100, 2)], 1)
        queue = long_queue(40, 5)
        latest = latest_all(queue, hours, 0)
        self.assertEqual(hours.end(), 500)
        # 120 turns have one counter, and of the 80 that are left then two go on at a time.
        self.assertEqual(max(latest.values()), 439)
        first, verdicts = first_booking(queue, hours, 0, latest, 0, 50)
        self.assertEqual((first, len(verdicts)), (440, 440))
        self.assertEqual(len([verdict for verdict in verdicts if verdict.word() == "late"]), 11 + 11 + 40)
        first, verdicts = first_booking(queue, ONE, 500, latest_all(queue, ONE, 500), 500, 1)
        self.assertEqual((first, len(verdicts)), (700, 200))


class NothingIsShared(BookingCase):
    def test_asking(self):
        for promises in PROMISES:
            for queue in (QUEUE, [], long_queue(60, 2)):
                for first, last in ((0, 0), (0, 1), (2, 2), (9, 58)):
                    self.shares_nothing(ask_booking, lambda: (list(queue), HOURS, 0, dict(promises), first, last))

    def test_looking(self):
        for promises in ({}, LATEST, {"zed": -1}):
            for queue in (QUEUE, []):
                for many in (1, 2, 50):
                    self.shares_nothing(first_booking, lambda: (list(queue), HOURS, 0, dict(promises), 0, many))

    def test_the_verdicts_of_one_list_share_nothing(self):
        verdicts = first_booking(QUEUE, HOURS, 0, LATEST, 0, 2)[1]
        before = [frozen(verdict) for verdict in verdicts]
        for place, verdict in enumerate(verdicts):
            verdict.queue.clear()
            self.assertEqual([frozen(each) for each in verdicts[place + 1:]], before[place + 1:])

    def test_refused_promises_stay(self):
        for call, handed in ((ask_booking, (0, 50)), (first_booking, (0, 0)), (first_booking, (0, 1))):
            promises = {"cy": 1, "ann": 2, "zed": -1}
            self.refusal("NotKept" if handed == (0, 1) else "NoNumber", call, QUEUE, HOURS, 0, promises, *handed)
            self.assertEqual(list(promises.items()), [("cy", 1), ("ann", 2), ("zed", -1)])


if __name__ == "__main__":
    unittest.main()
