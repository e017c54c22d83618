"""A hall: points [81] to [84] and [87] to [89], and of it what points 2 to 7 say; test_counters.py has 85 and 86."""

import unittest

from latestturn.hall import Hall
from latestturn.hours import Hours
from latestturn.latest import shows_latest
from tests.helper import COMING, HALL_HOURS, NO_NAMES, NO_NUMBERS, HallCase, frozen, hall_told, made_hall, spoil

FAR = 10 ** 30

NO_LENGTHS = NO_NUMBERS + [0, -1, 21, 22, 100, -FAR, FAR]


def full_hall(many):
    return made_hall([(f"t{number}", 1 + number % 3) for number in range(many)], Hours([], 2))


def used_hall():
    """A hall with somebody of each state, a booking and a break that stand, and some that do no more."""
    hall = Hall(Hours([(4, 2), (1, 0)], 2))
    hall.book("fay", 0, 0)
    for name, most in (("ann", 3), ("bo", 2), ("cy", 1), ("dee", 4), ("ed", 2)):
        hall.come(name, most)
    hall.book("gus", 10, 12)
    hall.book("hal", 14, 15)
    hall.miss("hal")
    hall.close(11, 12)
    hall.close(20, 20)
    hall.close(20, 20)
    hall.reopen(20, 20)
    hall.leave("ed")
    hall.pass_turns(4)
    hall.ends("dee")
    hall.come("ida", 3)
    hall.come("jo", 1)
    hall.tell("jo")
    return hall


class Making(HallCase):
    def test_81_a_new_hall(self):
        for hours in (HALL_HOURS, Hours([], 1), Hours([(3, 0)], 8)):
            hall = Hall(hours)
            self.assertEqual(hall.now_turn(), 0)
            self.assertEqual((hall.queue_now(), hall.latest_now(), hall.told_now()), ([], {}, {}))
            self.assertEqual((hall.all_names(), hall.log_told()), ([], []))
            self.assertEqual((hall.bookings_now(), hall.breaks_now()), ([], []))
            self.assertIs(type(hall.hours_now()), Hours)
            self.assertEqual(frozen(hall.hours_now()), frozen(hours))

    def test_81_nobody_is_there_yet(self):
        hall = Hall(HALL_HOURS)
        for deed in ("tell", "ends", "leave", "witness_of", "state_of"):
            self.refuses_deed("NoTicket", hall, deed, "ann", name="ann")
        self.refuses_deed("NoTicket", hall, "lift", "ann", "bo", name="ann")
        self.refuses_deed("NoBooking", hall, "miss", "ann", name="ann")
        self.refuses_deed("NoBreak", hall, "reopen", 0, 0, first=0, last=0)

    def test_81_the_latest_turns_are_from_the_hall_s_turn_on(self):
        hall = made_hall()
        self.assertEqual(hall.latest_now(), {"ann": 3, "bo": 1, "cy": 4})
        hall.pass_turns(1)
        self.assertEqual(hall.latest_now(), {"ann": 3, "bo": 1, "cy": 4})
        hall.ends("ann")
        self.assertEqual(hall.latest_now(), {"bo": 1, "cy": 1})
        hall.pass_turns(3)
        hall.come("dee", 2)
        self.assertEqual(hall.latest_now(), {"dee": 5})

    def test_81_its_hours_have_a_counter_less_for_each_booking_and_break(self):
        hall = Hall(Hours([(2, 2), (1, 0)], 3))
        self.has_counters(hall, [2, 2, 0, 3, 3, 3, 3, 3])
        hall.book("ann", 1, 1)
        hall.book("bo", 3, 5)
        hall.close(5, 6)
        hall.close(5, 6)
        self.has_counters(hall, [2, 1, 0, 2, 2, 0, 1, 3])
        hall.pass_turns(4)
        self.has_counters(hall, [2, 0, 1, 3])
        hall.miss("bo")
        self.has_counters(hall, [3, 1, 1, 3])
        hall.reopen(5, 6)
        self.has_counters(hall, [3, 2, 2, 3])


class Coming(HallCase):
    def test_82_the_latest_turn_is_told(self):
        hall = Hall(HALL_HOURS)
        self.assertEqual([hall.come(name, most) for name, most in COMING], [3, 1, 4])
        self.assertEqual(hall.queue_now(), COMING)
        self.assertEqual(hall.told_now(), {"ann": 3, "bo": 1, "cy": 4})
        self.assertEqual(hall.all_names(), ["ann", "bo", "cy"])
        self.assertEqual(hall.state_of("bo"), ("waiting", 2, 0, 0, 2, [1]))

    def test_82_who_comes_stands_behind_all_others(self):
        hall = made_hall([("zed", 1), ("ann", 20), ("mia", 1)], Hours([], 1))
        hall.pass_turns(3)
        self.assertEqual(hall.come("a", 1), 3 + 18 + 1)
        self.assertEqual(hall.queue_now(), [("ann", 18), ("mia", 1), ("a", 1)])
        self.assertEqual(hall.state_of("a"), ("waiting", 1, 3, 0, 1, [22]))

    def test_82_every_length_from_1_to_20(self):
        for most in range(1, 21):
            hall = Hall(Hours([(1, 0)], 1))
            self.assertEqual(hall.come("ann", most), most)
            self.assertEqual(hall.queue_now(), [("ann", most)])
            self.assertEqual(hall.state_of("ann"), ("waiting", most, 0, 0, most, [most]))

    def test_82_by_bookings_and_breaks_that_stand(self):
        hall = Hall(Hours([], 1))
        hall.book("dan", 1, 2)
        hall.close(4, 4)
        self.assertEqual(hall.come("ann", 2), 3)
        self.assertEqual(hall.come("bo", 1), 5)

    def test_82_no_name(self):
        for hall in (Hall(HALL_HOURS), made_hall(), full_hall(60)):
            before = hall_told(hall)
            for thing in NO_NAMES:
                for most in (1, 20, 0, 21, None):
                    self.refuses("NoName", hall.come, thing, most)
            self.assertEqual(hall_told(hall), before)

    def test_82_taken_by_who_came(self):
        hall = made_hall([("ann", 1), ("bo", 3), ("cy", 5), ("dee", 2), ("ed", 2)])
        hall.pass_turns(1)
        hall.ends("bo")
        hall.leave("cy")
        states = {"ann": "served", "bo": "served", "cy": "gone", "dee": "waiting", "ed": "waiting"}
        for times in range(3):
            self.assertEqual({name: hall.state_of(name)[0] for name in states}, states)
            for name in states:
                self.refuses_deed("Taken", hall, "come", name, 1, name=name)
                self.refuses_deed("Taken", hall, "book", name, 50, 50, name=name)
            hall.pass_turns(100)
            states["dee"] = states["ed"] = "served"

    def test_82_taken_by_bookings(self):
        hall = Hall(Hours([], 3))
        for name, first, last in (("ann", 0, 0), ("bo", 1, 4), ("cy", 9, 9)):
            self.assertIs(hall.book(name, first, last).granted(), True)
        hall.miss("bo")
        for turns in (0, 1, 1, 100):
            hall.pass_turns(turns)
            for name in ("ann", "bo", "cy"):
                self.refuses_deed("Taken", hall, "come", name, 1, name=name)
                self.refuses_deed("Taken", hall, "book", name, 300, 300, name=name)

    def test_82_a_refused_booking_does_not_take_its_name(self):
        hall = made_hall()
        self.assertEqual(hall.book("dan", 2, 2).told(), ("no counter", 2))
        self.assertEqual(hall.book("dan", 0, 0).word(), "late")
        self.refuses_deed("NoNumber", hall, "book", "dan", 0, 100)
        self.assertIs(hall.book("dan", 9, 9).granted(), True)
        self.assertEqual(hall.book("eve", 2, 2).word(), "no counter")
        self.assertEqual(hall.come("eve", 1), 5)

    def test_82_what_was_refused_is_not_taken(self):
        hall = full_hall(60)
        self.refuses_deed("NoNumber", hall, "come", "ann", 0)
        self.refuses_deed("TooMany", hall, "come", "ann", 1)
        hall.leave("t59")
        self.assertIs(type(hall.come("ann", 1)), int)

    def test_82_no_length(self):
        for hall in (Hall(HALL_HOURS), made_hall()):
            for thing in NO_LENGTHS:
                self.refuses_deed("NoNumber", hall, "come", "dee", thing)

    def test_82_sixty_may_wait(self):
        hall = full_hall(59)
        self.assertIs(type(hall.come("last", 1)), int)
        self.assertEqual(len(hall.queue_now()), 60)
        for most in (1, 20):
            self.refuses_deed("TooMany", hall, "come", "ann", most)
        hall.pass_turns(1)
        self.assertEqual(len(hall.queue_now()), 59)
        hall.come("ann", 20)
        self.refuses_deed("TooMany", hall, "come", "bo", 1)
        for deed, name in (("ends", "t1"), ("leave", "t7")):
            getattr(hall, deed)(name)
            hall.come(deed, 1)
            self.refuses_deed("TooMany", hall, "come", "bo", 1)
        self.assertEqual(len(hall.all_names()), 63)

    def test_82_more_than_sixty_may_have_come(self):
        hall = Hall(Hours([], 8))
        for number in range(200):
            self.assertEqual(hall.come(f"t{number}", 1), number)
            hall.pass_turns(1)
        self.assertEqual(hall.all_names(), [f"t{number}" for number in range(200)])

    def test_82_the_order_of_refusals(self):
        hall = full_hall(60)
        hall.pass_turns(1)
        self.assertIs(hall.book("fay", 90, 90).granted(), True)
        hall.come("ann", 1)
        self.assertEqual(len(hall.queue_now()), 60)
        before = hall_told(hall)
        for most in NO_LENGTHS + [1, 20]:
            self.refuses("NoName", hall.come, "Ann", most)
            for name in ("ann", "t0", "t9", "fay"):
                self.refuses("Taken", hall.come, name, most, name=name)
        for most in NO_LENGTHS:
            self.refuses("NoNumber", hall.come, "bo", most)
        self.refuses("TooMany", hall.come, "bo", 1)
        self.assertEqual(hall_told(hall), before)


class TellingAgain(HallCase):
    def test_82_told_again(self):
        hall = made_hall()
        self.assertEqual(hall.tell("cy"), 4)
        self.assertEqual(hall.state_of("cy")[5], [4, 4])
        hall.leave("bo")
        self.assertEqual(hall.told_now(), {"ann": 3, "cy": 4})
        self.assertEqual(hall.tell("cy"), 0)
        self.assertEqual(hall.state_of("cy")[5], [4, 4, 0])
        self.assertEqual(hall.told_now(), {"ann": 3, "cy": 0})
        self.assertEqual(hall.state_of("ann")[5], [3])

    def test_82_the_last_one_is_the_told_number(self):
        hall = made_hall([("ann", 4), ("bo", 1)], Hours([], 1))
        numbers = [4]
        for turns in range(4):
            hall.pass_turns(1)
            if turns == 2:
                hall.ends("ann")
                hall.close(4, 4)
            numbers.append(hall.tell("bo"))
            self.assertEqual(hall.told_now()["bo"], numbers[-1])
            self.assertEqual(hall.state_of("bo")[5], numbers)
            if turns == 2:
                break
        self.assertEqual(numbers, [4, 4, 4, 3])

    def test_82_a_promise_is_what_was_told_last(self):
        hall = made_hall([("ann", 3), ("bo", 1)], Hours([], 1))
        hall.leave("ann")
        self.assertEqual(hall.close(0, 0).word(), "granted")
        self.assertEqual(hall.tell("bo"), 1)
        self.assertEqual(hall.close(1, 1).told(), ("late", "bo", 1, 2, [(0, []), (1, []), (2, ["bo"])]))

    def test_82_only_the_telling_changes(self):
        hall, other = made_hall(), made_hall()
        hall.tell("bo")
        self.assertEqual(hall.state_of("bo"), ("waiting", 2, 0, 0, 2, [1, 1]))
        for name in ("ann", "cy"):
            self.assertEqual(hall.state_of(name), other.state_of(name))
        self.assertEqual((hall.queue_now(), hall.told_now()), (other.queue_now(), other.told_now()))

    def test_82_no_ticket(self):
        hall = used_hall()
        for name in ["ed", "dee", "bo", "fay", "gus", "hal", "zed"] + NO_NAMES:
            self.refuses_deed("NoTicket", hall, "tell", name, name=name)


class Going(HallCase):
    def test_83_a_service_ends_sooner(self):
        hall = made_hall()
        hall.pass_turns(1)
        self.assertIsNone(hall.ends("ann"))
        self.assertEqual(hall.queue_now(), [("bo", 1), ("cy", 1)])
        self.assertEqual(hall.state_of("ann"), ("served", 3, 0, 1, 0, [3]))
        self.assertEqual(hall.all_names(), ["ann", "bo", "cy"])
        self.assertEqual(hall.told_now(), {"bo": 1, "cy": 4})
        self.assertEqual(hall.log_told(), [(0, ["ann", "bo"])])
        self.assertEqual(hall.now_turn(), 1)

    def test_83_somebody_leaves(self):
        hall = made_hall()
        self.assertIsNone(hall.leave("bo"))
        self.assertEqual(hall.queue_now(), [("ann", 3), ("cy", 1)])
        self.assertEqual(hall.state_of("bo"), ("gone", 2, 0, 0, 2, [1]))
        hall.pass_turns(1)
        hall.tell("ann")
        self.assertIsNone(hall.leave("ann"))
        self.assertEqual(hall.state_of("ann"), ("gone", 3, 0, 1, 2, [3, 3]))
        self.assertEqual(hall.queue_now(), [])
        self.assertEqual(hall.all_names(), ["ann", "bo", "cy"])

    def test_83_who_goes_stays_as_they_were_then(self):
        hall = made_hall([("ann", 5), ("bo", 5)], Hours([], 2))
        hall.pass_turns(2)
        hall.ends("ann")
        hall.leave("bo")
        for turns in (0, 1, 5):
            self.assertEqual(hall.pass_turns(turns), [(hall.now_turn() - turns + turn, []) for turn in range(turns)])
            self.assertEqual(hall.state_of("ann"), ("served", 5, 0, 2, 0, [4]))
            self.assertEqual(hall.state_of("bo"), ("gone", 5, 0, 2, 3, [4]))

    def test_83_the_others_are_served_in_their_place(self):
        for deed in ("ends", "leave"):
            hall = made_hall([("ann", 9), ("bo", 9), ("cy", 2), ("dee", 2)], Hours([], 2))
            hall.pass_turns(1)
            getattr(hall, deed)("ann")
            self.assertEqual(hall.latest_now(), {"bo": 8, "cy": 2, "dee": 4})
            self.assertEqual(hall.pass_turns(3), [(1, ["bo", "cy"]), (2, ["bo", "cy"]), (3, ["bo", "dee"])])

    def test_83_no_ticket(self):
        hall = used_hall()
        for name in ["ed", "dee", "bo", "fay", "gus", "hal", "zed"] + NO_NAMES:
            self.refuses_deed("NoTicket", hall, "ends", name, name=name)
            self.refuses_deed("NoTicket", hall, "leave", name, name=name)

    def test_83_not_begun(self):
        hall = made_hall()
        for name in ("ann", "bo", "cy"):
            self.refuses_deed("NotBegun", hall, "ends", name, name=name)
        hall.pass_turns(1)
        self.refuses_deed("NotBegun", hall, "ends", "cy", name="cy")
        hall.pass_turns(1)
        self.refuses_deed("NotBegun", hall, "ends", "cy", name="cy")
        self.refuses_deed("NoTicket", hall, "ends", "bo", name="bo")
        hall.ends("ann")
        hall.pass_turns(1)
        self.refuses_deed("NotBegun", hall, "ends", "cy", name="cy")
        hall.leave("cy")
        self.assertEqual(hall.state_of("cy"), ("gone", 1, 0, 0, 1, [4]))

    def test_83_begun_and_not_served_since(self):
        hall = made_hall([("ann", 3), ("bo", 2)], Hours([(1, 2)], 1))
        hall.pass_turns(2)
        self.assertEqual(hall.state_of("bo")[3], 1)
        hall.ends("bo")
        self.assertEqual(hall.state_of("bo"), ("served", 2, 0, 1, 0, [3]))


class Passing(HallCase):
    def test_84_turns_pass(self):
        hall = made_hall()
        self.assertEqual(hall.pass_turns(2), [(0, ["ann", "bo"]), (1, ["ann", "bo"])])
        self.assertEqual(hall.now_turn(), 2)
        self.assertEqual(hall.queue_now(), [("ann", 1), ("cy", 1)])
        self.assertEqual(hall.state_of("bo"), ("served", 2, 0, 2, 0, [1]))
        self.assertEqual(hall.state_of("ann"), ("waiting", 3, 0, 2, 1, [3]))
        self.assertEqual(hall.pass_turns(4), [(2, []), (3, ["ann"]), (4, ["cy"]), (5, [])])
        self.assertEqual(hall.now_turn(), 6)
        self.assertEqual([hall.state_of(name)[0] for name in ("ann", "bo", "cy")], ["served"] * 3)
        self.assertEqual(hall.state_of("cy"), ("served", 1, 0, 1, 0, [4]))

    def test_84_no_turn(self):
        for hall in (Hall(HALL_HOURS), made_hall(), used_hall()):
            self.assertEqual(self.changes_nothing(hall, "pass_turns", 0), [])

    def test_84_one_turn_and_a_hundred(self):
        hall = made_hall([("ann", 20), ("bo", 20)], Hours([], 1))
        self.assertEqual(hall.pass_turns(1), [(0, ["ann"])])
        rows = hall.pass_turns(100)
        self.assertEqual(rows, [(turn, ["ann"] if turn < 20 else ["bo"] if turn < 40 else []) for turn in range(1,
                                                                                                                101)])
        self.assertEqual(hall.now_turn(), 101)
        self.assertEqual(hall.log_told(), [(0, ["ann"])] + rows)

    def test_84_each_number_of_turns(self):
        for turns in range(101):
            hall = Hall(Hours([(50, 0)], 1))
            self.assertEqual(hall.come("ann", 20), 69)
            rows = hall.pass_turns(turns)
            self.assertEqual(rows, [(turn, ["ann"] if 50 <= turn < 70 else []) for turn in range(turns)])
            self.assertEqual(hall.now_turn(), turns)
            self.assertEqual(hall.state_of("ann")[3], min(20, max(0, turns - 50)))

    def test_84_an_empty_hall_and_turns_without_a_counter(self):
        hall = Hall(Hours([(3, 0)], 1))
        self.assertEqual(hall.pass_turns(2), [(0, []), (1, [])])
        hall.come("ann", 1)
        self.assertEqual(hall.pass_turns(3), [(2, []), (3, ["ann"]), (4, [])])
        self.assertEqual(hall.log_told(), [(0, []), (1, []), (2, []), (3, ["ann"]), (4, [])])

    def test_84_by_the_hall_s_hours(self):
        hall = Hall(Hours([], 3))
        hall.book("dan", 0, 1)
        hall.close(1, 1)
        hall.come("ann", 2)
        hall.come("bo", 2)
        self.assertEqual(hall.pass_turns(1), [(0, ["ann", "bo"])])
        hall.come("cy", 1)
        hall.come("dee", 1)
        self.assertEqual(hall.book("fay", 1, 1).word(), "late")
        self.assertEqual(hall.pass_turns(3), [(1, ["ann"]), (2, ["bo", "cy", "dee"]), (3, [])])

    def test_84_no_number(self):
        for hall in (Hall(HALL_HOURS), used_hall()):
            for thing in NO_NUMBERS + [-1, 101, 102, 1000, -FAR, FAR]:
                self.refuses_deed("NoNumber", hall, "pass_turns", thing)

    def test_84_turns_together_are_like_turns_one_by_one(self):
        one, two = used_hall(), used_hall()
        rows = []
        for turn in range(30):
            rows += one.pass_turns(1)
        self.assertEqual(two.pass_turns(30), rows)
        self.assertEqual(hall_told(one), hall_told(two))

    def test_84_a_deed_holds_from_the_hall_s_turn_on(self):
        hall = made_hall([("ann", 2), ("bo", 1)], Hours([], 1))
        hall.pass_turns(1)
        hall.leave("ann")
        self.assertEqual(hall.tell("bo"), 1)
        self.assertEqual(hall.pass_turns(1), [(1, ["bo"])])
        self.assertEqual(hall.come("cy", 1), 2)
        self.assertEqual(hall.close(2, 2).told()[:4], ("late", "cy", 2, 3))
        self.refuses_deed("NoNumber", hall, "close", 1, 2)


class Lifting(HallCase):
    def test_87_a_lift_that_is_granted(self):
        hall = made_hall([("ann", 2), ("bo", 1), ("cy", 1)], Hours([], 1))
        hall.leave("ann")
        verdict = hall.lift("cy", "bo")
        self.is_granted(verdict, [("cy", 1), ("bo", 1)], Hours([], 1), 0)
        self.assertEqual(hall.queue_now(), [("cy", 1), ("bo", 1)])
        self.assertEqual(hall.latest_now(), {"cy": 0, "bo": 1})
        self.assertEqual(hall.told_now(), {"cy": 3, "bo": 2})
        self.assertEqual(hall.all_names(), ["ann", "bo", "cy"])
        self.assertEqual(hall.pass_turns(2), [(0, ["cy"]), (1, ["bo"])])

    def test_87_just_ahead_of_the_other_one(self):
        hall = made_hall([("x", 9)] + [(name, 1) for name in "abcde"], Hours([], 1))
        hall.leave("x")
        self.assertIs(hall.lift("d", "b").granted(), True)
        self.assertEqual([name for name, left in hall.queue_now()], ["a", "d", "b", "c", "e"])
        self.assertIs(hall.lift("e", "a").granted(), True)
        self.assertEqual([name for name, left in hall.queue_now()], ["e", "a", "d", "b", "c"])

    def test_87_a_lift_that_is_refused(self):
        hall = made_hall()
        run = [(0, ["ann", "cy"]), (1, ["ann", "bo"]), (2, []), (3, ["ann"]), (4, ["bo"])]
        verdict = self.changes_nothing(hall, "lift", "cy", "bo")
        self.is_late(verdict, "bo", 1, 4, run, [("ann", 3), ("cy", 1), ("bo", 2)], HALL_HOURS, 0)
        self.holds_with(verdict, hall.told_now(), True)
        self.assertEqual(hall.queue_now(), COMING)

    def test_87_told_by_the_hall_s_hours_and_turn(self):
        hall = made_hall([("ann", 3), ("bo", 2), ("cy", 1)], Hours([], 2))
        hall.book("dan", 6, 6)
        hall.pass_turns(1)
        verdict = hall.lift("cy", "ann")
        run = [(1, ["cy", "ann"]), (2, ["ann", "bo"])]
        hours = Hours([], 2).less(6, 6)
        self.is_late(verdict, "bo", 1, 2, run, [("cy", 1), ("ann", 2), ("bo", 1)], hours, 1)

    def test_87_of_one_who_stands_ahead_already_or_ahead_of_itself(self):
        hall = made_hall()
        for name, ahead in (("ann", "bo"), ("ann", "cy"), ("bo", "cy"), ("ann", "ann"), ("bo", "bo"), ("cy", "cy")):
            self.is_granted(self.changes_nothing(hall, "lift", name, ahead), COMING, HALL_HOURS, 0)

    def test_87_a_lift_is_held_against_the_last_told_number(self):
        hall = made_hall([("x", 1), ("ann", 1), ("bo", 1)], Hours([], 1))
        hall.leave("x")
        self.assertEqual(hall.tell("ann"), 0)
        self.assertEqual(self.changes_nothing(hall, "lift", "bo", "ann").told()[:4], ("late", "ann", 0, 1))
        self.assertEqual(hall.told_now(), {"ann": 0, "bo": 2})

    def test_87_no_ticket(self):
        hall = used_hall()
        for thing in ["ed", "dee", "bo", "fay", "gus", "zed"] + NO_NAMES:
            self.refuses_deed("NoTicket", hall, "lift", thing, "ida", name=thing)
            self.refuses_deed("NoTicket", hall, "lift", "ida", thing, name=thing)
            self.refuses_deed("NoTicket", hall, "lift", thing, thing, name=thing)
            self.refuses_deed("NoTicket", hall, "lift", thing, "nobody", name=thing)
            self.refuses_deed("NoTicket", hall, "lift", "nobody", thing, name="nobody")


class Asking(HallCase):
    def test_88_all_that_a_hall_tells(self):
        hall = used_hall()
        self.assertEqual(hall.now_turn(), 4)
        self.assertEqual(hall.queue_now(), [("ida", 3), ("jo", 1)])
        self.has_counters(hall, [0, 2, 2, 2, 2, 2, 1, 0, 0, 2, 2, 2, 2, 2, 2, 2, 1, 2])
        self.assertEqual(hall.latest_now(), {"ida": 7, "jo": 5})
        self.assertEqual(hall.told_now(), {"ida": 7, "jo": 5})
        self.assertEqual(hall.witness_of("jo"), [(4, []), (5, ["ida", "jo"])])
        self.assertEqual(hall.witness_of("ida"), [(4, []), (5, ["ida", "jo"]), (6, ["ida"]), (7, ["ida"])])
        self.assertEqual(hall.all_names(), ["ann", "bo", "cy", "dee", "ed", "ida", "jo"])
        self.assertEqual(hall.log_told(), [(0, ["ann"]), (1, ["ann", "bo"]), (2, ["ann", "bo"]), (3, ["cy", "dee"])])
        self.assertEqual(hall.bookings_now(), [("gus", 10, 12)])
        self.assertEqual(hall.breaks_now(), [(11, 12), (20, 20)])

    def test_88_kinds(self):
        hall = used_hall()
        self.assertIs(type(hall.now_turn()), int)
        self.assertIs(type(hall.hours_now()), Hours)
        told = (hall.queue_now(), hall.witness_of("ida"), hall.log_told(), hall.bookings_now(), hall.breaks_now())
        for rows in told:
            self.assertIs(type(rows), list)
            self.assertEqual({type(row) for row in rows}, {tuple})
        for rows in (hall.witness_of("ida"), hall.log_told()):
            self.assertEqual({type(names) for turn, names in rows}, {list})
        self.assertEqual((type(hall.latest_now()), type(hall.told_now())), (dict, dict))
        self.assertIs(type(hall.all_names()), list)
        for name in hall.all_names():
            self.assertIs(type(hall.state_of(name)), tuple)
            self.assertEqual([type(part) for part in hall.state_of(name)], [str, int, int, int, int, list])

    def test_88_dicts_are_in_the_order_of_the_queue(self):
        hall = made_hall([("x", 9), ("b", 1), ("c", 2), ("a", 3)], Hours([], 1))
        hall.leave("x")
        hall.lift("a", "b")
        self.assertEqual(list(hall.latest_now().items()), [("a", 2), ("b", 3), ("c", 5)])
        self.assertEqual(list(hall.told_now().items()), [("a", 14), ("b", 9), ("c", 11)])

    def test_88_the_latest_turns_and_the_told_numbers(self):
        hall = made_hall([("ann", 5), ("bo", 2)], Hours([], 1))
        hall.pass_turns(1)
        hall.ends("ann")
        self.assertEqual((hall.latest_now(), hall.told_now()), ({"bo": 2}, {"bo": 6}))
        hall.pass_turns(2)
        self.assertEqual((hall.latest_now(), hall.told_now()), ({}, {}))

    def test_88_witnesses(self):
        hall = made_hall()
        hall.pass_turns(1)
        self.assertEqual(hall.witness_of("bo"), [(1, ["ann", "bo"])])
        self.assertEqual(hall.witness_of("ann"), [(1, ["ann", "bo"]), (2, []), (3, ["ann"])])
        for name in ("ann", "bo", "cy"):
            handed = (hall.queue_now(), hall.hours_now(), 1, name, hall.latest_now()[name], hall.witness_of(name))
            self.assertIs(shows_latest(*handed), True)

    def test_88_no_witness_of_who_does_not_wait(self):
        hall = used_hall()
        for thing in ["ed", "dee", "bo", "fay", "gus", "zed"] + NO_NAMES:
            self.refuses_deed("NoTicket", hall, "witness_of", thing, name=thing)

    def test_88_states(self):
        hall = used_hall()
        self.assertEqual(hall.state_of("ann"), ("served", 3, 0, 3, 0, [2]))
        self.assertEqual(hall.state_of("bo"), ("served", 2, 0, 2, 0, [2]))
        self.assertEqual(hall.state_of("cy"), ("served", 1, 0, 1, 0, [3]))
        self.assertEqual(hall.state_of("dee"), ("served", 4, 0, 1, 0, [7]))
        self.assertEqual(hall.state_of("ed"), ("gone", 2, 0, 0, 2, [6]))
        self.assertEqual(hall.state_of("ida"), ("waiting", 3, 4, 0, 3, [7]))
        self.assertEqual(hall.state_of("jo"), ("waiting", 1, 4, 0, 1, [5, 5]))
        hall.pass_turns(2)
        self.assertEqual(hall.state_of("ida"), ("waiting", 3, 4, 1, 2, [7]))
        self.assertEqual(hall.state_of("jo"), ("served", 1, 4, 1, 0, [5, 5]))
        hall.leave("ida")
        self.assertEqual(hall.state_of("ida"), ("gone", 3, 4, 1, 2, [7]))

    def test_88_no_state_of_who_never_came(self):
        hall = used_hall()
        for thing in ["fay", "gus", "hal", "zed"] + NO_NAMES:
            self.refuses_deed("NoTicket", hall, "state_of", thing, name=thing)

    def test_88_asking_changes_nothing(self):
        hall = used_hall()
        for deed in TELLING:
            first = frozen(self.changes_nothing(hall, deed))
            self.assertEqual(frozen(self.changes_nothing(hall, deed)), first)
        for name in hall.all_names():
            self.changes_nothing(hall, "state_of", name)


TELLING = ("now_turn", "queue_now", "hours_now", "latest_now", "told_now", "all_names", "log_told", "bookings_now",
           "breaks_now")


class NothingIsShared(HallCase):
    def test_88_what_is_told_is_the_asker_s_own(self):
        hall = used_hall()
        before = hall_told(hall)
        kept = [getattr(hall, deed)() for deed in TELLING]
        kept += [hall.witness_of("ida")] + [hall.state_of(name) for name in hall.all_names()]
        frozen_kept = frozen(kept)
        for deed in TELLING:
            spoil(getattr(hall, deed)())
            self.assertEqual(hall_told(hall), before, deed)
        spoil([hall.witness_of("ida")] + [hall.state_of(name) for name in hall.all_names()])
        self.assertEqual(hall_told(hall), before)
        self.assertEqual(frozen(kept), frozen_kept, "told was what had been told before")
        spoil(kept)
        self.assertEqual(hall_told(hall), before)

    def test_88_what_was_told_does_not_change_with_the_hall(self):
        hall = used_hall()
        kept = [getattr(hall, deed)() for deed in TELLING]
        kept += [hall.witness_of("ida")] + [hall.state_of(name) for name in hall.all_names()]
        before = frozen(kept)
        for deed, handed in (("come", ("kim", 2)), ("tell", ("kim",)), ("close", (30, 31)), ("book", ("lu", 40, 41)),
                             ("pass_turns", (2,)), ("ends", ("ida",)), ("leave", ("kim",)), ("miss", ("gus",)),
                             ("reopen", (20, 20)), ("pass_turns", (100,))):
            getattr(hall, deed)(*handed)
            self.assertEqual(frozen(kept), before, deed)

    def test_2_rows_that_passed_are_the_asker_s_own(self):
        hall = made_hall()
        spoil(hall.pass_turns(2))
        self.assertEqual(hall.log_told(), [(0, ["ann", "bo"]), (1, ["ann", "bo"])])
        self.assertEqual(hall.queue_now(), [("ann", 1), ("cy", 1)])

    def test_2_verdicts_are_the_asker_s_own(self):
        for deed, handed in (("book", ("dan", 9, 9)), ("close", (9, 9)), ("book", ("dan", 2, 2)), ("close", (0, 1)),
                             ("lift", ("cy", "ann")), ("lift", ("ann", "cy")), ("lift", ("bo", "bo"))):
            hall, other = made_hall(), made_hall()
            verdict, alike = getattr(hall, deed)(*handed), getattr(other, deed)(*handed)
            before, told = hall_told(hall), frozen(alike)
            self.assertEqual(frozen(verdict), told)
            spoil(verdict)
            self.assertEqual(hall_told(hall), before)
            self.assertEqual(frozen(alike), told)
            hall.pass_turns(5)
            self.assertEqual(frozen(alike), told)

    def test_2_a_verdict_does_not_change_with_the_hall(self):
        hall = made_hall()
        verdicts = [hall.lift("cy", "ann"), hall.close(2, 2), hall.close(9, 9), hall.lift("ann", "bo")]
        before = frozen(verdicts)
        hall.come("dee", 4)
        hall.reopen(9, 9)
        hall.pass_turns(3)
        self.assertEqual(frozen(verdicts), before)

    def test_2_what_is_handed_in_is_changed_afterwards(self):
        rows = [(2, 2), (1, 0)]
        hours = Hours(rows, 1)
        hall = Hall(hours)
        before = hall_told(hall)
        rows.clear()
        spoil(hours.rows())
        self.assertEqual(hall_told(hall), before)
        self.assertEqual([hall.come(name, most) for name, most in COMING], [3, 1, 4])

    def test_2_the_hours_that_are_handed_in_stay(self):
        hours = Hours([(2, 2), (1, 0)], 2)
        before = frozen(hours)
        hall = Hall(hours)
        told = hall.hours_now()
        hall.book("ann", 4, 9)
        hall.close(5, 5)
        self.assertEqual((frozen(hours), frozen(told)), (before, before))
        hall.pass_turns(6)
        hall.miss("ann")
        self.assertEqual((frozen(hours), frozen(told)), (before, before))

    def test_2_halls_made_and_used_alike_tell_alike_and_share_nothing(self):
        one, two, third = Hall(HALL_HOURS), Hall(HALL_HOURS), Hall(HALL_HOURS)
        empty = hall_told(third)
        deeds = (("come", ("ann", 3)), ("come", ("bo", 2)), ("book", ("dan", 9, 12)), ("close", (20, 20)),
                 ("pass_turns", (1,)), ("tell", ("bo",)), ("ends", ("ann",)), ("leave", ("bo",)), ("miss", ("dan",)),
                 ("reopen", (20, 20)), ("come", ("cy", 1)), ("lift", ("cy", "cy")), ("pass_turns", (9,)))
        for deed, handed in deeds:
            before = hall_told(two)
            told = frozen(getattr(one, deed)(*handed))
            self.assertEqual(hall_told(two), before, deed)
            self.assertEqual(frozen(getattr(two, deed)(*handed)), told, deed)
            self.assertEqual(hall_told(one), hall_told(two), deed)
            self.assertEqual(hall_told(third), empty)


class ManyDeeds(HallCase):
    def test_89_a_thousand_deeds(self):
        hall = Hall(Hours([], 1))
        for number in range(250):
            self.assertEqual(hall.come(f"t{number}", 2), 2 * number + 1 + number)
            self.assertIs(hall.close(3 * number + 2, 3 * number + 2).granted(), True)
            self.assertEqual(hall.tell(f"t{number}"), 3 * number + 1)
            self.assertEqual(hall.pass_turns(3)[1:], [(3 * number + 1, [f"t{number}"]), (3 * number + 2, [])])
        self.assertEqual((hall.now_turn(), len(hall.log_told()), len(hall.all_names())), (750, 750, 250))
        self.assertEqual(hall.state_of("t249"), ("served", 2, 747, 2, 0, [748, 748]))

    def test_89_far_turns(self):
        hall = Hall(Hours([], 2))
        for number in range(990):
            hall.pass_turns(100)
        self.assertEqual((hall.now_turn(), hall.come("ann", 3)), (99000, 99002))
        self.assertIs(hall.book("bo", 10 ** 5, 10 ** 5).granted(), True)
        self.assertEqual(len(hall.log_told()), 99000)

    def test_89_told_numbers_are_never_less_than_latest_turns_nor_greater_than_before(self):
        hall = made_hall([(f"t{number}", 1 + number % 7) for number in range(30)], Hours([(9, 3), (2, 0)], 2))
        for number in range(0, 30, 4):
            hall.leave(f"t{number}")
            hall.pass_turns(1)
            for name, left in hall.queue_now():
                self.assertLessEqual(hall.latest_now()[name], hall.told_now()[name])
                hall.tell(name)
        for name in hall.all_names():
            numbers = hall.state_of(name)[5]
            self.assertEqual(numbers, sorted(numbers, reverse=True))


if __name__ == "__main__":
    unittest.main()
