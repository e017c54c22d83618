"""Counters of a hall that are booked, closed and given back: points [85] and [86], and of them what 2 to 7 say."""

import unittest

from latestturn.hall import Hall
from latestturn.hours import Hours
from tests.helper import COMING, HALL_HOURS, NO_NAMES, NO_NUMBERS, HallCase, frozen, hall_told, made_hall

FAR = 10 ** 30

# No first and last turns of a booking, for a hall whose turn is 3.
NO_TURNS = [(0, 0), (2, 2), (2, 9), (-1, 5), (4, 3), (5, 3), (100000, 99999), (3, 53), (4, 54), (3, 100000),
            (100000, 100001), (100001, 100001), (100001, 100002), (99960, 100001), (FAR, FAR), (-FAR, FAR), (4, -FAR)]
NO_TURNS += [(thing, 5) for thing in NO_NUMBERS] + [(5, thing) for thing in NO_NUMBERS]
NO_TURNS += [(thing, thing) for thing in NO_NUMBERS]


class CounterCase(HallCase):
    def stand(self, hall, bookings, breaks):
        self.assertEqual((hall.bookings_now(), hall.breaks_now()), (bookings, breaks))

    def both(self, hall, first, last):
        """What the hall tells of a booking and a break of these turns, none of which is granted, and both are alike."""
        one = self.changes_nothing(hall, "book", "zed", first, last)
        two = self.changes_nothing(hall, "close", first, last)
        self.assertEqual(frozen(one), frozen(two))
        self.assertIs(one.granted(), False)
        self.holds_with(one, hall.told_now(), True)
        return one


class Granting(CounterCase):
    def test_85_a_booking_that_is_granted(self):
        hall = made_hall()
        verdict = hall.book("dan", 5, 7)
        self.is_granted(verdict, COMING, HALL_HOURS.less(5, 7), 0)
        self.holds_with(verdict, hall.told_now(), True)
        self.stand(hall, [("dan", 5, 7)], [])
        self.has_counters(hall, [2, 2, 0, 1, 1, 0, 0, 0, 1])
        self.assertEqual((hall.queue_now(), hall.all_names()), (COMING, ["ann", "bo", "cy"]))

    def test_85_a_break_that_is_granted(self):
        hall = made_hall()
        verdict = hall.close(5, 7)
        self.is_granted(verdict, COMING, HALL_HOURS.less(5, 7), 0)
        self.holds_with(verdict, hall.told_now(), True)
        self.stand(hall, [], [(5, 7)])
        self.has_counters(hall, [2, 2, 0, 1, 1, 0, 0, 0, 1])
        self.assertEqual((hall.queue_now(), hall.all_names()), (COMING, ["ann", "bo", "cy"]))

    def test_85_who_has_booked_gets_no_ticket(self):
        hall = made_hall()
        hall.book("dan", 5, 7)
        self.refuses_deed("NoTicket", hall, "state_of", "dan", name="dan")
        self.refuses_deed("NoTicket", hall, "tell", "dan", name="dan")
        self.assertEqual(hall.pass_turns(9)[5:], [(5, []), (6, []), (7, []), (8, [])])
        self.assertEqual(hall.all_names(), ["ann", "bo", "cy"])

    def test_85_in_the_order_in_which_they_were_granted(self):
        hall = Hall(Hours([], 8))
        for name, first, last in (("zed", 9, 9), ("ann", 30, 31), ("mia", 2, 4)):
            hall.book(name, first, last)
            hall.close(first + 1, last + 1)
        self.stand(hall, [("zed", 9, 9), ("ann", 30, 31), ("mia", 2, 4)], [(10, 10), (31, 32), (3, 5)])
        hall.miss("zed")
        hall.reopen(31, 32)
        self.stand(hall, [("ann", 30, 31), ("mia", 2, 4)], [(10, 10), (3, 5)])
        hall.book("b", 9, 9)
        hall.close(31, 32)
        self.stand(hall, [("ann", 30, 31), ("mia", 2, 4), ("b", 9, 9)], [(10, 10), (3, 5), (31, 32)])

    def test_85_at_the_hall_s_turn_and_later(self):
        hall = made_hall([("ann", 1)], Hours([], 2))
        for now in range(4):
            self.assertIs(hall.book(f"b{now}", now, now).granted(), True)
            self.has_counters(hall, [1, 2])
            self.assertIs(hall.close(now + 1, now + 1).granted(), True)
            self.has_counters(hall, [1, 1, 2])
            hall.reopen(now + 1, now + 1)
            self.assertEqual(hall.pass_turns(1), [(now, ["ann"] if now == 0 else [])])
            self.stand(hall, [], [])

    def test_85_several_at_the_same_turns(self):
        hall = Hall(Hours([(4, 3)], 2))
        for name in ("ann", "bo"):
            self.assertIs(hall.book(name, 2, 5).granted(), True)
        self.stand(hall, [("ann", 2, 5), ("bo", 2, 5)], [])
        self.has_counters(hall, [3, 3, 1, 1, 0, 0, 2])
        self.assertEqual(self.both(hall, 2, 5).told(), ("no counter", 4))
        self.assertIs(hall.close(2, 3).granted(), True)
        self.assertEqual(self.both(hall, 2, 5).told(), ("no counter", 2))
        self.has_counters(hall, [3, 3, 0, 0, 0, 0, 2])

    def test_85_one_turn_and_fifty_of_them(self):
        hall = Hall(Hours([], 2))
        self.assertIs(hall.book("ann", 0, 0).granted(), True)
        self.assertIs(hall.close(0, 49).granted(), True)
        self.has_counters(hall, [0] + [1] * 49 + [2])
        self.assertIs(hall.book("bo", 99951, 100000).granted(), True)
        self.assertIs(hall.close(100000, 100000).granted(), True)
        self.stand(hall, [("ann", 0, 0), ("bo", 99951, 100000)], [(0, 49), (100000, 100000)])
        self.assertEqual([hall.hours_now().at(turn) for turn in (99950, 99951, 99999, 100000, 100001)], [2, 1, 1, 0, 2])

    def test_85_where_every_told_number_still_holds_though_somebody_is_later(self):
        hall = made_hall([("x", 2), ("ann", 2), ("bo", 2)], Hours([], 1))
        hall.leave("x")
        self.assertEqual((hall.latest_now(), hall.told_now()), ({"ann": 1, "bo": 3}, {"ann": 3, "bo": 5}))
        self.assertIs(hall.close(1, 1).granted(), True)
        self.assertEqual(hall.latest_now(), {"ann": 2, "bo": 4})
        self.assertIs(hall.book("dan", 3, 3).granted(), True)
        self.assertEqual(hall.latest_now(), {"ann": 2, "bo": 5})
        self.assertEqual(self.both(hall, 4, 4).told()[:4], ("late", "bo", 5, 6))
        self.assertEqual(hall.told_now(), {"ann": 3, "bo": 5})


class Refusing(CounterCase):
    def test_85_no_counter(self):
        hall = made_hall()
        for first, last in ((2, 2), (0, 2), (1, 40), (2, 51)):
            verdict = self.both(hall, first, last)
            self.is_no_room(verdict, 2, COMING, HALL_HOURS, 0)

    def test_85_no_counter_as_all_are_booked_or_closed(self):
        hall = Hall(Hours([], 1))
        hall.book("ann", 3, 4)
        hall.close(6, 6)
        hours = Hours([(3, 1), (2, 0), (1, 1), (1, 0)], 1)
        for first, last, turn in ((3, 3, 3), (4, 4, 4), (0, 9, 3), (4, 9, 4), (5, 9, 6), (6, 6, 6)):
            self.is_no_room(self.both(hall, first, last), turn, [], hours, 0)

    def test_85_late(self):
        hall = made_hall()
        run = [(0, ["ann", "bo"]), (1, ["ann"]), (2, []), (3, ["ann"]), (4, ["bo"]), (5, ["cy"])]
        verdict = self.both(hall, 1, 1)
        self.is_late(verdict, "bo", 1, 4, run, COMING, HALL_HOURS.less(1, 1), 0)
        run = [(0, ["ann", "bo"]), (1, ["ann", "bo"]), (2, []), (3, []), (4, ["ann"]), (5, ["cy"])]
        verdict = self.both(hall, 3, 3)
        self.is_late(verdict, "ann", 3, 4, run, COMING, HALL_HOURS.less(3, 3), 0)
        self.stand(hall, [], [])

    def test_85_late_by_the_hall_s_turn(self):
        hall = made_hall()
        hall.pass_turns(2)
        run = [(2, []), (3, ["ann"]), (4, []), (5, []), (6, ["cy"])]
        self.is_late(self.both(hall, 4, 5), "cy", 4, 6, run, [("ann", 1), ("cy", 1)], HALL_HOURS.less(4, 5), 2)

    def test_85_who_does_not_wait_has_no_promise_any_more(self):
        hall = made_hall()
        hall.leave("cy")
        hall.pass_turns(1)
        hall.ends("ann")
        self.assertEqual(self.both(hall, 1, 2).told(), ("no counter", 2))
        self.assertIs(hall.close(1, 1).granted(), True)
        self.assertEqual(hall.latest_now(), {"bo": 1})
        hall.pass_turns(1)
        self.assertIs(hall.close(3, 9).granted(), True)

    def test_85_no_name(self):
        hall = made_hall()
        hall.pass_turns(3)
        before = hall_told(hall)
        for thing in NO_NAMES:
            for first, last in ((9, 9), (3, 3), (0, 0), (None, "x")):
                self.refuses("NoName", hall.book, thing, first, last)
        for first, last in NO_TURNS:
            self.refuses("NoName", hall.book, "Dan", first, last)
        self.assertEqual(hall_told(hall), before)

    def test_85_taken(self):
        hall = made_hall()
        hall.book("dan", 10, 11)
        hall.book("eve", 20, 21)
        hall.miss("eve")
        hall.pass_turns(3)
        hall.leave("cy")
        before = hall_told(hall)
        for name in ("ann", "bo", "cy", "dan", "eve"):
            for first, last in [(30, 30), (10, 10), (3, 3)] + NO_TURNS:
                self.refuses("Taken", hall.book, name, first, last, name=name)
        self.assertEqual(hall_told(hall), before)

    def test_85_no_turns(self):
        hall = made_hall()
        hall.pass_turns(3)
        before = hall_told(hall)
        for first, last in NO_TURNS:
            self.refuses("NoNumber", hall.book, "dan", first, last)
            self.refuses("NoNumber", hall.close, first, last)
        self.assertEqual(hall_told(hall), before)
        self.assertIs(hall.book("dan", 5, 54).granted(), True)
        self.assertIs(hall.close(55, 104).granted(), True)

    def test_85_truths_are_no_turns(self):
        hall = Hall(Hours([], 2))
        for first, last in ((False, 0), (0, False), (True, 1), (1, True), (True, True), (0, True), (False, 5)):
            self.refuses_deed("NoNumber", hall, "book", "dan", first, last)
            self.refuses_deed("NoNumber", hall, "close", first, last)

    def test_85_no_turns_goes_ahead_of_the_verdict(self):
        hall = made_hall()
        self.assertEqual(self.both(hall, 2, 51).told(), ("no counter", 2))
        self.refuses_deed("NoNumber", hall, "close", 2, 52)
        self.refuses_deed("NoNumber", hall, "book", "dan", 2, 52)
        self.refuses_deed("NoNumber", hall, "close", 2, 1)

    def test_85_a_name_that_was_refused_may_book_and_come(self):
        for deed, handed in (("book", (9, 9)), ("come", (1,))):
            hall = made_hall()
            hall.book("dan", 2, 2)
            hall.book("dan", 3, 3)
            self.stand(hall, [], [])
            getattr(hall, deed)("dan", *handed)
            self.refuses_deed("Taken", hall, "book", "dan", 9, 9, name="dan")


class GivingUp(CounterCase):
    def made(self):
        hall = Hall(Hours([(30, 3)], 2))
        hall.book("ann", 4, 8)
        hall.close(4, 8)
        self.has_counters(hall, [3, 3, 3, 3, 1, 1, 1, 1, 1, 3])
        return hall

    def test_86_ahead_of_their_turns(self):
        for turns in range(5):
            hall = self.made()
            hall.pass_turns(turns)
            self.assertIsNone(hall.miss("ann"))
            self.stand(hall, [], [(4, 8)])
            self.has_counters(hall, [3, 3, 3, 3, 2, 2, 2, 2, 2, 3][turns:])
            self.assertIsNone(hall.reopen(4, 8))
            self.stand(hall, [], [])
            self.has_counters(hall, [3] * (30 - turns) + [2])

    def test_86_within_their_turns(self):
        for turns in range(5, 9):
            hall = self.made()
            hall.pass_turns(turns)
            self.stand(hall, [("ann", 4, 8)], [(4, 8)])
            hall.reopen(4, 8)
            self.stand(hall, [("ann", 4, 8)], [])
            self.has_counters(hall, [2] * (9 - turns) + [3, 3])
            hall.miss("ann")
            self.stand(hall, [], [])
            self.has_counters(hall, [3] * (30 - turns) + [2])

    def test_86_behind_their_turns(self):
        for turns in (9, 10, 60):
            hall = self.made()
            hall.pass_turns(turns)
            self.stand(hall, [], [])
            self.has_counters(hall, [3] * (30 - turns) + [2, 2])
            self.refuses_deed("NoBooking", hall, "miss", "ann", name="ann")
            self.refuses_deed("NoBreak", hall, "reopen", 4, 8, first=4, last=8)

    def test_86_it_stands_to_its_last_turn(self):
        hall = self.made()
        for turn in range(12):
            stands = turn <= 8
            self.stand(hall, [("ann", 4, 8)] * stands, [(4, 8)] * stands)
            self.has_counters(hall, [1 if 4 <= turn <= 8 else 3])
            hall.pass_turns(1)

    def test_86_some_pass_and_the_others_stand(self):
        hall = Hall(Hours([], 8))
        for number in range(6):
            hall.book(f"b{number}", 9 - number, 9 + number)
            hall.close(9 + number, 19 - number)
        hall.pass_turns(12)
        self.stand(hall, [("b3", 6, 12), ("b4", 5, 13), ("b5", 4, 14)],
                   [(9, 19), (10, 18), (11, 17), (12, 16), (13, 15), (14, 14)])
        hall.pass_turns(4)
        self.stand(hall, [], [(9, 19), (10, 18), (11, 17), (12, 16)])
        self.has_counters(hall, [4, 5, 6, 7, 8])

    def test_86_a_counter_that_is_given_back_serves_again(self):
        hall = Hall(Hours([], 2))
        hall.book("dan", 0, 3)
        hall.close(1, 3)
        self.assertEqual([hall.come(name, 2) for name in ("ann", "bo")], [4, 5])
        self.assertEqual(hall.pass_turns(2), [(0, ["ann"]), (1, [])])
        hall.miss("dan")
        self.assertEqual(hall.latest_now(), {"ann": 2, "bo": 4})
        hall.reopen(1, 3)
        self.assertEqual(hall.latest_now(), {"ann": 2, "bo": 3})
        self.assertEqual(hall.told_now(), {"ann": 4, "bo": 5})
        self.assertEqual(hall.pass_turns(3), [(2, ["ann", "bo"]), (3, ["bo"]), (4, [])])

    def test_86_what_was_given_up_may_be_granted_again(self):
        hall = Hall(Hours([], 1))
        hall.book("ann", 3, 4)
        hall.miss("ann")
        self.refuses_deed("Taken", hall, "book", "ann", 3, 4, name="ann")
        self.assertIs(hall.book("bo", 3, 4).granted(), True)
        hall.miss("bo")
        self.assertIs(hall.close(3, 4).granted(), True)
        self.assertEqual(self.both(hall, 3, 4).told(), ("no counter", 3))
        hall.reopen(3, 4)
        self.assertIs(hall.close(3, 4).granted(), True)
        self.stand(hall, [], [(3, 4)])

    def test_86_no_booking(self):
        hall = Hall(Hours([(3, 1)], 4))
        hall.come("ann", 20)
        hall.book("bo", 5, 6)
        hall.book("cy", 5, 5)
        hall.book("dee", 2, 2)
        hall.miss("cy")
        self.assertEqual(hall.bookings_now(), [("bo", 5, 6)])
        for thing in ["ann", "cy", "dee", "zed", "b", "boo"] + NO_NAMES:
            self.refuses_deed("NoBooking", hall, "miss", thing, name=thing)
        hall.pass_turns(7)
        for name in ("ann", "bo", "cy", "dee"):
            self.refuses_deed("NoBooking", hall, "miss", name, name=name)

    def test_86_only_once(self):
        hall = self.made()
        hall.miss("ann")
        hall.reopen(4, 8)
        self.refuses_deed("NoBooking", hall, "miss", "ann", name="ann")
        self.refuses_deed("NoBreak", hall, "reopen", 4, 8, first=4, last=8)

    def test_86_no_break(self):
        hall = self.made()
        hall.close(1, 1)
        hall.book("bo", 20, 22)
        for first, last in ((4, 7), (5, 8), (3, 8), (4, 9), (8, 4), (20, 22), (0, 0), (1, 8), (4, 1), (-FAR, FAR)):
            self.refuses_deed("NoBreak", hall, "reopen", first, last, first=first, last=last)
        for thing in NO_NUMBERS:
            self.refuses_deed("NoBreak", hall, "reopen", thing, 1, first=thing, last=1)
            self.refuses_deed("NoBreak", hall, "reopen", 1, thing, first=1, last=thing)
            self.refuses_deed("NoBreak", hall, "reopen", thing, thing, first=thing, last=thing)

    def test_86_a_refused_break_does_not_stand(self):
        hall = made_hall()
        hall.close(2, 2)
        hall.close(1, 1)
        self.refuses_deed("NoBreak", hall, "reopen", 2, 2, first=2, last=2)
        self.refuses_deed("NoBreak", hall, "reopen", 1, 1, first=1, last=1)

    def test_86_of_several_breaks_of_the_same_turns_the_first_goes(self):
        hall = Hall(Hours([], 8))
        for first, last in ((5, 6), (7, 7), (5, 6), (5, 5), (5, 6)):
            hall.close(first, last)
        for breaks in ([(7, 7), (5, 6), (5, 5), (5, 6)], [(7, 7), (5, 5), (5, 6)], [(7, 7), (5, 5)]):
            hall.reopen(5, 6)
            self.stand(hall, [], breaks)
            self.has_counters(hall, [8] * 5 + [8 - sum(first <= turn <= last for first, last in breaks)
                                               for turn in (5, 6, 7, 8)])
        self.refuses_deed("NoBreak", hall, "reopen", 5, 6, first=5, last=6)

    def test_86_a_booking_and_a_break_of_the_same_turns(self):
        hall = self.made()
        hall.book("bo", 4, 8)
        self.has_counters(hall, [3, 3, 3, 3, 0, 0, 0, 0, 0, 3])
        hall.reopen(4, 8)
        self.stand(hall, [("ann", 4, 8), ("bo", 4, 8)], [])
        self.refuses_deed("NoBreak", hall, "reopen", 4, 8, first=4, last=8)
        hall.miss("ann")
        self.stand(hall, [("bo", 4, 8)], [])
        self.has_counters(hall, [3, 3, 3, 3, 2, 2, 2, 2, 2, 3])


if __name__ == "__main__":
    unittest.main()
