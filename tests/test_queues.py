"""Queues [21] to [24], and of them what points 2, 3, 5 and 6 say."""

import itertools
import unittest
from unittest import mock

from latestturn.queues import (
    check_queue, joined, left_of, lifted, names_of, place_of, placed, shortened, without,
)
from tests.helper import NO_NAMES, NO_NUMBERS, RefusalCase, long_queue

QUEUE = [("ann", 3), ("bo", 1), ("cy", 20), ("dee", 7)]
NO_LEFT = NO_NUMBERS + [0, -1, 21, 22, 100, -10 ** 30, 10 ** 30, 10 ** 5000]


class Checking(RefusalCase):
    def test_queues_that_are_let_by(self):
        for queue in ([], [("a", 1)], [("abcdefgh", 20)], QUEUE, long_queue(59), long_queue(60)):
            self.assertIs(check_queue(queue), True)

    def test_sixty_tickets_and_sixty_one(self):
        self.assertIs(check_queue(long_queue(60)), True)
        for many in (61, 62, 100):
            self.refuses("TooMany", check_queue, long_queue(many))

    def test_too_many_goes_ahead_of_all_else(self):
        for ticket in (("", 0), ("t1", 1), ("z", 0)):
            self.refuses("TooMany", check_queue, [ticket] + long_queue(60))
            self.refuses("TooMany", check_queue, long_queue(60) + [ticket])

    def test_no_name(self):
        for thing in NO_NAMES:
            self.refuses("NoName", check_queue, [(thing, 1)])
            self.refuses("NoName", check_queue, QUEUE + [(thing, 1)])
            self.refuses("NoName", check_queue, [(thing, 1)] + QUEUE)

    def test_eight_signs_and_nine(self):
        self.assertIs(check_queue([("abcdefg8", 1)]), True)
        self.refuses("NoName", check_queue, [("abcdefg89", 1)])

    def test_doubled(self):
        for name in ("ann", "bo", "cy", "dee"):
            self.refuses("Doubled", check_queue, QUEUE + [(name, 5)], name=name)
        self.refuses("Doubled", check_queue, [("a", 1), ("a", 1)], name="a")
        self.refuses("Doubled", check_queue, QUEUE + [("cy", 5), ("ann", 5)], name="cy")
        self.assertIs(check_queue([("a", 1), ("aa", 1), ("a1", 1)]), True)

    def test_left_from_1_to_20(self):
        for left in range(1, 21):
            self.assertIs(check_queue([("a", left)]), True)
            self.assertIs(check_queue(QUEUE + [("a", left)]), True)
        for left in NO_LEFT:
            self.refuses("NoNumber", check_queue, [("a", left)])
            self.refuses("NoNumber", check_queue, QUEUE + [("a", left)])
            self.refuses("NoNumber", check_queue, [("a", left)] + QUEUE)

    def test_order_within_a_ticket(self):
        for thing in NO_NAMES:
            self.refuses("NoName", check_queue, [(thing, 0)])
            self.refuses("NoName", check_queue, [("a", 1), (thing, None)])
        self.refuses("Doubled", check_queue, [("a", 1), ("a", 0)], name="a")
        self.refuses("Doubled", check_queue, [("a", 1), ("a", None)], name="a")
        self.refuses("NoName", check_queue, [("A", 1), ("A", 1)])

    def test_order_of_tickets(self):
        self.refuses("NoNumber", check_queue, [("a", 0), ("B", 1)])
        self.refuses("NoNumber", check_queue, [("a", 0), ("a", 1)])
        self.refuses("NoNumber", check_queue, [("b", 1), ("a", 21), ("b", 1)])
        self.refuses("NoName", check_queue, [("B", 1), ("a", 0)])
        self.refuses("Doubled", check_queue, [("a", 1), ("a", 1), ("B", 1)], name="a")
        self.refuses("Doubled", check_queue, [("a", 1), ("a", 1), ("b", 0)], name="a")
        self.refuses("NoName", check_queue, [("a", 1), ("B", 1), ("a", 1)])


class Asking(RefusalCase):
    def test_names(self):
        self.assertEqual(names_of(QUEUE), ["ann", "bo", "cy", "dee"])
        self.assertEqual(names_of([("z", 1), ("a", 2)]), ["z", "a"])
        self.assertEqual(names_of([]), [])
        self.assertEqual(names_of(long_queue(60)), [f"t{number}" for number in range(60)])

    def test_left_and_place(self):
        self.assertEqual([left_of(QUEUE, name) for name in ("ann", "bo", "cy", "dee")], [3, 1, 20, 7])
        self.assertEqual([place_of(QUEUE, name) for name in ("ann", "bo", "cy", "dee")], [0, 1, 2, 3])
        queue = long_queue(60)
        for number in range(60):
            self.assertEqual(left_of(queue, f"t{number}"), number % 20 + 1)
            self.assertEqual(place_of(queue, f"t{number}"), number)

    def test_no_ticket(self):
        for ask in (left_of, place_of):
            for thing in NO_NAMES + ["a", "an", "annn", "b", "zed", "de"]:
                self.refuses("NoTicket", ask, QUEUE, thing, name=thing)
                self.refuses("NoTicket", ask, [], thing, name=thing)


class OtherQueues(RefusalCase):
    def test_joined(self):
        self.assertEqual(joined(QUEUE, "ed", 5), QUEUE + [("ed", 5)])
        self.assertEqual(joined(QUEUE, "aa", 1), QUEUE + [("aa", 1)])
        self.assertEqual(joined([], "a2345678", 20), [("a2345678", 20)])
        self.assertEqual(joined(long_queue(59), "z", 9), long_queue(59) + [("z", 9)])

    def test_joined_is_refused_as_the_queue_would_be(self):
        self.refuses("TooMany", joined, long_queue(60), "z", 9)
        for thing in NO_NAMES:
            self.refuses("NoName", joined, QUEUE, thing, 5)
            self.refuses("NoName", joined, QUEUE, thing, 0)
            self.refuses("TooMany", joined, long_queue(60), thing, 5)
        for name in ("ann", "bo", "cy", "dee"):
            self.refuses("Doubled", joined, QUEUE, name, 5, name=name)
            self.refuses("Doubled", joined, QUEUE, name, 0, name=name)
        for left in NO_LEFT:
            self.refuses("NoNumber", joined, QUEUE, "ed", left)
            self.refuses("NoNumber", joined, [], "ed", left)
        self.refuses("TooMany", joined, long_queue(60), "t7", 0)

    def test_without(self):
        self.assertEqual(without(QUEUE, "ann"), [("bo", 1), ("cy", 20), ("dee", 7)])
        self.assertEqual(without(QUEUE, "bo"), [("ann", 3), ("cy", 20), ("dee", 7)])
        self.assertEqual(without(QUEUE, "dee"), [("ann", 3), ("bo", 1), ("cy", 20)])
        self.assertEqual(without([("a", 1)], "a"), [])

    def test_shortened(self):
        self.assertEqual(shortened(QUEUE, "ann", 2), [("ann", 2), ("bo", 1), ("cy", 20), ("dee", 7)])
        self.assertEqual(shortened(QUEUE, "cy", 1), [("ann", 3), ("bo", 1), ("cy", 1), ("dee", 7)])
        self.assertEqual(shortened(QUEUE, "dee", 6), [("ann", 3), ("bo", 1), ("cy", 20), ("dee", 6)])
        for name, left in QUEUE:
            self.assertEqual(shortened(QUEUE, name, left), QUEUE)

    def test_shortened_to_each_number(self):
        for place, (name, left) in enumerate(QUEUE):
            for told in range(1, left + 1):
                self.assertEqual(shortened(QUEUE, name, told), QUEUE[:place] + [(name, told)] + QUEUE[place + 1:])
            for more in (left + 1, left + 2, 21, 10 ** 30):
                self.refuses("NoNumber", shortened, QUEUE, name, more)

    def test_shortened_to_0_goes_out(self):
        for name, left in QUEUE:
            self.assertEqual(shortened(QUEUE, name, 0), without(QUEUE, name))
        self.assertEqual(shortened([("a", 1)], "a", 0), [])

    def test_shortened_to_no_number(self):
        for left in NO_NUMBERS + [-1, -2, -10 ** 30]:
            self.refuses("NoNumber", shortened, QUEUE, "cy", left)
            self.refuses("NoNumber", shortened, QUEUE, "bo", left)

    def test_no_ticket(self):
        for thing in NO_NAMES + ["ed", "an", "annn"]:
            self.refuses("NoTicket", without, QUEUE, thing, name=thing)
            self.refuses("NoTicket", without, [], thing, name=thing)
            for left in (0, 1, -1, 21, None):
                self.refuses("NoTicket", shortened, QUEUE, thing, left, name=thing)


class Lifting(RefusalCase):
    def test_lifted_just_ahead(self):
        self.assertEqual(lifted(QUEUE, "dee", "bo"), [("ann", 3), ("dee", 7), ("bo", 1), ("cy", 20)])
        self.assertEqual(lifted(QUEUE, "dee", "ann"), [("dee", 7), ("ann", 3), ("bo", 1), ("cy", 20)])
        self.assertEqual(lifted(QUEUE, "cy", "bo"), [("ann", 3), ("cy", 20), ("bo", 1), ("dee", 7)])
        self.assertEqual(lifted(QUEUE, "bo", "ann"), [("bo", 1), ("ann", 3), ("cy", 20), ("dee", 7)])

    def test_ahead_already_or_the_same(self):
        for place, (name, left) in enumerate(QUEUE):
            for other, other_left in QUEUE[place:]:
                self.assertEqual(lifted(QUEUE, name, other), QUEUE)

    def test_every_pair(self):
        for many in range(1, 6):
            queue = long_queue(many)
            for (name, left), (ahead, ahead_left) in itertools.product(queue, repeat=2):
                told = lifted(queue, name, ahead)
                self.assertEqual(sorted(told), sorted(queue))
                behind = queue.index((name, left)) > queue.index((ahead, ahead_left))
                self.assertEqual(told == queue, not behind)
                if behind:
                    self.assertEqual(told.index((name, left)) + 1, told.index((ahead, ahead_left)))
                others = [ticket for ticket in queue if ticket[0] != name]
                self.assertEqual([ticket for ticket in told if ticket[0] != name], others)

    def test_no_ticket_of_the_first_then_of_the_second(self):
        for thing in NO_NAMES + ["ed", "an"]:
            self.refuses("NoTicket", lifted, QUEUE, thing, "ann", name=thing)
            self.refuses("NoTicket", lifted, QUEUE, thing, "zed", name=thing)
            self.refuses("NoTicket", lifted, QUEUE, thing, thing, name=thing)
            self.refuses("NoTicket", lifted, QUEUE, "dee", thing, name=thing)
            self.refuses("NoTicket", lifted, QUEUE, "ann", thing, name=thing)
        self.refuses("NoTicket", lifted, [], "one", "two", name="one")

    def test_placed(self):
        self.assertEqual(placed(QUEUE, "dee", 0), [("dee", 7), ("ann", 3), ("bo", 1), ("cy", 20)])
        self.assertEqual(placed(QUEUE, "dee", 1), [("ann", 3), ("dee", 7), ("bo", 1), ("cy", 20)])
        self.assertEqual(placed(QUEUE, "cy", 1), [("ann", 3), ("cy", 20), ("bo", 1), ("dee", 7)])
        self.assertEqual(placed(QUEUE, "cy", 2), QUEUE)
        self.assertEqual(placed(QUEUE, "ann", 0), QUEUE)

    def test_every_place(self):
        for many in (1, 2, 5, 60):
            queue = long_queue(many)
            for own, ticket in enumerate(queue):
                others = queue[:own] + queue[own + 1:]
                for place in range(own + 1):
                    self.assertEqual(placed(queue, ticket[0], place), others[:place] + [ticket] + others[place:])
                for place in (own + 1, own + 2, 60, 10 ** 30, -1, -2, -10 ** 30):
                    self.refuses("NoNumber", placed, queue, ticket[0], place)

    def test_placed_at_no_number(self):
        for place in NO_NUMBERS:
            self.refuses("NoNumber", placed, QUEUE, "dee", place)

    def test_placed_without_a_ticket(self):
        for thing in NO_NAMES + ["ed", "an"]:
            for place in (0, 1, -1, 9, None):
                self.refuses("NoTicket", placed, QUEUE, thing, place, name=thing)


CALLS = [
    (check_queue, ()), (names_of, ()), (left_of, ("bo",)), (place_of, ("bo",)), (joined, ("ed", 4)),
    (without, ("bo",)), (shortened, ("cy", 19)), (shortened, ("cy", 20)), (shortened, ("cy", 0)),
    (lifted, ("dee", "bo")), (lifted, ("bo", "dee")), (lifted, ("bo", "bo")),
    (placed, ("dee", 0)), (placed, ("dee", 3)), (placed, ("ann", 0)),
]
REFUSED = [
    (left_of, ("zed",)), (place_of, (None,)), (joined, ("ann", 4)), (joined, ("Ed", 4)), (joined, ("ed", 0)),
    (without, ("zed",)), (shortened, ("zed", 0)), (shortened, ("cy", 21)), (lifted, ("zed", "ann")),
    (lifted, ("dee", "zed")), (placed, ("zed", 0)), (placed, ("bo", 2)),
]


class NothingChanges(RefusalCase):
    def test_what_is_handed_in_is_not_changed(self):
        for call, handed in CALLS:
            queue = list(QUEUE)
            call(queue, *handed)
            self.assertEqual(queue, QUEUE, call.__name__)

    def test_what_is_refused_changes_nothing(self):
        for call, handed in REFUSED:
            queue = list(QUEUE)
            with self.assertRaises(ValueError):
                call(queue, *handed)
            self.assertEqual(queue, QUEUE, call.__name__)
        for queue in (long_queue(61), QUEUE + [("ann", 1)], QUEUE + [("ed", 0)], QUEUE + [("", 1)]):
            before = list(queue)
            with self.assertRaises(ValueError):
                check_queue(queue)
            self.assertEqual(queue, before)

    def test_lists_that_are_told_are_new_ones(self):
        for call, handed in CALLS:
            queue = list(QUEUE)
            told = call(queue, *handed)
            if not isinstance(told, list):
                continue
            before = list(told)
            again = call(queue, *handed)
            self.assertEqual(again, told, call.__name__)
            told.clear()
            self.assertEqual(queue, QUEUE, call.__name__)
            self.assertEqual(again, before, call.__name__)
            self.assertEqual(call(queue, *handed), before, call.__name__)

    def test_changing_it_later_changes_nothing(self):
        for call, handed in CALLS:
            queue = list(QUEUE)
            told = call(queue, *handed)
            before = list(told) if isinstance(told, list) else told
            queue[0] = ("zed", 1)
            queue.append(("yo", 1))
            self.assertEqual(told, before, call.__name__)
            queue.clear()
            self.assertEqual(told, before, call.__name__)

    def test_queues_that_are_told_are_lists_of_tuples(self):
        for call, handed in CALLS:
            told = call(list(QUEUE), *handed)
            if isinstance(told, list) and call != names_of:
                self.assertEqual([(type(each), len(each)) for each in told], [(tuple, 2)] * len(told))
                self.assertIs(check_queue(told), True)

    def test_a_thing_like_every_text_is_no_name(self):
        self.refuses("NoTicket", left_of, QUEUE, mock.ANY, name=mock.ANY)


if __name__ == "__main__":
    unittest.main()
