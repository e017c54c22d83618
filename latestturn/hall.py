"""A hall: who waits, who was served, and the numbers that were told and are kept."""

from latestturn.bookings import ask_booking
from latestturn.errors import NoBooking, NoBreak, NoName, NoNumber, NoTicket, NotBegun, Taken
from latestturn.hours import is_name, is_number, is_whole
from latestturn.latest import latest_all, latest_of, witness_run
from latestturn.lifts import ask_lift
from latestturn.queues import MOST_LEFT, joined, lifted, without
from latestturn.runs import turn_served
from latestturn.tickets import Waiting, as_gone, as_served
from latestturn.verdicts import own_rows

MOST_PASSED = 100


class Hall:
    def __init__(self, hours):
        self.turn = 0
        self.hours = hours
        self.queue = []
        self.tickets = {}
        # Every name that was ever booked: it stays taken when the booking stands no more.
        self.booked = {}
        self.bookings = []
        self.breaks = []
        self.log = []

    def come(self, name, most):
        self.check_free(name)
        # Looked at ahead of the joining, which would tell of too many tickets first.
        if not is_number(most, 1, MOST_LEFT):
            raise NoNumber("a service takes at most 1 to 20 turns")
        self.queue = joined(self.queue, name, most)
        self.tickets[name] = Waiting(name, most, self.turn)
        return self.tell(name)

    def check_free(self, name):
        if not is_name(name):
            raise NoName("a name has 1 to 8 small letters and figures, a letter first")
        if name in self.tickets or name in self.booked:
            raise Taken(name)

    def tell(self, name):
        number = latest_of(self.queue, self.hours, self.turn, name)
        self.tickets[name].add_number(number)
        return number

    def ends(self, name):
        others = without(self.queue, name)
        if self.tickets[name].had() == 0:
            raise NotBegun(name)
        self.queue = others
        self.tickets[name] = as_served(self.tickets[name])

    def leave(self, name):
        self.queue = without(self.queue, name)
        self.tickets[name] = as_gone(self.tickets[name])

    def pass_turns(self, many):
        if not is_number(many, 0, MOST_PASSED):
            raise NoNumber("0 to 100 turns pass at a time")
        passed = len(self.log)
        for number in range(many):
            self.pass_turn()
        self.bookings = [booking for booking in self.bookings if booking[2] >= self.turn]
        self.breaks = [turns for turns in self.breaks if turns[1] >= self.turn]
        return own_rows(self.log[passed:])

    def pass_turn(self):
        served = turn_served(self.queue, self.hours.at(self.turn))
        for name in served[0]:
            self.serve(name)
        self.queue = served[1]
        self.log.append((self.turn, served[0]))
        self.turn = self.turn + 1

    def serve(self, name):
        ticket = self.tickets[name]
        ticket.add_turn()
        if ticket.left() == 0:
            self.tickets[name] = as_served(ticket)

    def book(self, name, first, last):
        self.check_free(name)
        verdict = self.take_counter(first, last)
        if verdict.granted():
            self.booked[name] = True
            self.bookings.append((name, first, last))
        return verdict

    def close(self, first, last):
        verdict = self.take_counter(first, last)
        if verdict.granted():
            self.breaks.append((first, last))
        return verdict

    def take_counter(self, first, last):
        verdict = ask_booking(self.queue, self.hours, self.turn, self.told_now(), first, last)
        if verdict.granted():
            self.hours = self.hours.less(first, last)
        return verdict

    def give_counter(self, first, last):
        # Not at the turns that passed: they were served as they were.
        self.hours = self.hours.more(max(first, self.turn), last)

    def miss(self, name):
        # Things that are no names are not compared: some claim to be like every text.
        missed = [booking for booking in self.bookings if is_name(name) and booking[0] == name]
        if not missed:
            raise NoBooking(name)
        self.bookings.remove(missed[0])
        self.give_counter(missed[0][1], missed[0][2])

    def reopen(self, first, last):
        # Only whole numbers are compared: True would be like the turn 1.
        if not is_whole(first) or not is_whole(last) or (first, last) not in self.breaks:
            raise NoBreak(first, last)
        # Of several alike ones this is the one that was granted first.
        self.breaks.remove((first, last))
        self.give_counter(first, last)

    def lift(self, name, ahead):
        verdict = ask_lift(self.queue, self.hours, self.turn, self.told_now(), name, ahead)
        if verdict.granted():
            self.queue = lifted(self.queue, name, ahead)
        return verdict

    def now_turn(self):
        return self.turn

    def queue_now(self):
        return list(self.queue)

    def hours_now(self):
        return self.hours

    def latest_now(self):
        return latest_all(self.queue, self.hours, self.turn)

    def told_now(self):
        told = {}
        for name, left in self.queue:
            told[name] = self.tickets[name].numbers()[-1]
        return told

    def witness_of(self, name):
        return witness_run(self.queue, self.hours, self.turn, name)

    def state_of(self, name):
        if not is_name(name) or name not in self.tickets:
            raise NoTicket(name)
        return self.tickets[name].told()

    def all_names(self):
        return list(self.tickets)

    def log_told(self):
        return own_rows(self.log)

    def bookings_now(self):
        return list(self.bookings)

    def breaks_now(self):
        return list(self.breaks)
