"""Tickets: what the interface says of them by [88], and of them what point 2 says."""

import unittest

from latestturn.tickets import Gone, Served, Ticket, Waiting, as_gone, as_served
from tests.helper import spoil

WORDS = [(Ticket, "ticket"), (Waiting, "waiting"), (Served, "served"), (Gone, "gone")]
MADE = [("ann", 3, 0), ("b", 1, 7), ("a1234567", 20, 10 ** 5)]


def whole_state(ticket):
    return ticket.name, ticket.told()


class Making(unittest.TestCase):
    def is_ticket(self, ticket, name, told):
        """The ticket has that name, and each of its methods tells its part of what is told."""
        self.assertEqual((ticket.name, ticket.most, ticket.came), (name, told[1], told[2]))
        self.assertEqual((ticket.word(), ticket.had(), ticket.left(), ticket.numbers()), (told[0], *told[3:]))
        self.assertEqual(ticket.told(), told)
        self.assertIs(type(ticket.told()), tuple)
        self.assertEqual([type(part) for part in ticket.told()], [str, int, int, int, int, list])
        self.assertEqual([type(ticket.had()), type(ticket.left()), type(ticket.numbers())], [int, int, list])

    def test_when_they_are_made(self):
        for name, most, came in MADE:
            self.is_ticket(Ticket(name, most, came), name, ("ticket", most, came, 0, most, []))
            self.is_ticket(Waiting(name, most, came), name, ("waiting", most, came, 0, most, []))
            self.is_ticket(Served(name, most, came), name, ("served", most, came, 0, 0, []))
            self.is_ticket(Gone(name, most, came), name, ("gone", most, came, 0, most, []))

    def test_classes(self):
        for kind in (Waiting, Served, Gone):
            self.assertEqual(kind.__bases__, (Ticket,))
            self.assertEqual([other for other in (Waiting, Served, Gone) if issubclass(kind, other)], [kind])
        self.assertEqual(Ticket.__bases__, (object,))

    def test_turns_had(self):
        for kind, word in WORDS:
            for most in (1, 2, 20):
                ticket = kind("ann", most, 4)
                for had in range(most + 1):
                    left = 0 if kind is Served else most - had
                    self.is_ticket(ticket, "ann", (word, most, 4, had, left, []))
                    ticket.add_turn()

    def test_numbers_told(self):
        for kind, word in WORDS:
            ticket = kind("ann", 3, 4)
            left = ticket.left()
            told = []
            for number in (9, 9, 7, 10 ** 5, 10 ** 30):
                ticket.add_number(number)
                told.append(number)
                self.is_ticket(ticket, "ann", (word, 3, 4, 0, left, told))

    def test_of_a_served_one_nothing_is_left(self):
        for most in range(1, 21):
            ticket = Served("ann", most, 0)
            for had in range(most + 1):
                self.assertEqual((ticket.had(), ticket.left(), ticket.told()[4]), (had, 0, 0))
                ticket.add_turn()


class TakingOver(unittest.TestCase):
    def test_who_waited_is_served_or_gone(self):
        for had in range(4):
            ticket = Waiting("ann", 3, 7)
            for turn in range(had):
                ticket.add_turn()
            for number in (12, 9):
                ticket.add_number(number)
            before = whole_state(ticket)
            self.assertIs(type(as_served(ticket)), Served)
            self.assertEqual(whole_state(as_served(ticket)), ("ann", ("served", 3, 7, had, 0, [12, 9])))
            self.assertIs(type(as_gone(ticket)), Gone)
            self.assertEqual(whole_state(as_gone(ticket)), ("ann", ("gone", 3, 7, had, 3 - had, [12, 9])))
            self.assertEqual(whole_state(ticket), before)

    def test_they_share_nothing(self):
        for other_of in (as_served, as_gone):
            ticket = Waiting("ann", 3, 7)
            ticket.add_number(12)
            other = other_of(ticket)
            before = whole_state(other)
            ticket.add_number(11)
            ticket.add_turn()
            self.assertEqual(whole_state(other), before)
            other.add_number(10)
            self.assertEqual(ticket.numbers(), [12, 11])


class NothingIsShared(unittest.TestCase):
    def test_lists_that_are_told_are_new_each_time(self):
        for kind, word in WORDS:
            ticket = kind("ann", 3, 4)
            for numbers in ([], [8], [8, 6]):
                before = whole_state(ticket)
                again, told = ticket.numbers(), ticket.told()
                spoil((ticket.numbers(), ticket.told()))
                self.assertEqual((again, told), (numbers, before[1]))
                self.assertEqual(whole_state(ticket), before)
                spoil((again, told))
                self.assertEqual(whole_state(ticket), before)
                ticket.add_number(8 - 2 * len(numbers))

    def test_what_was_told_does_not_change_with_the_ticket(self):
        for kind, word in WORDS:
            ticket = kind("ann", 3, 4)
            numbers, told = ticket.numbers(), ticket.told()
            ticket.add_turn()
            ticket.add_number(5)
            self.assertEqual(numbers, [])
            self.assertEqual(told, whole_state(kind("ann", 3, 4))[1])

    def test_made_alike_they_tell_alike_and_share_nothing(self):
        for kind, word in WORDS:
            one, two = kind("ann", 3, 4), kind("ann", 3, 4)
            before = whole_state(two)
            self.assertEqual(whole_state(one), before)
            one.add_turn()
            one.add_number(5)
            self.assertEqual(whole_state(two), before)
            two.add_turn()
            two.add_number(5)
            self.assertEqual(whole_state(one), whole_state(two))


if __name__ == "__main__":
    unittest.main()
