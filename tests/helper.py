"""What the tests share: asking for a refusal, things of every kind, and queues and hours made by a rule."""

import itertools
import unittest
from unittest import mock

from latestturn import errors
from latestturn.hall import Hall
from latestturn.hours import Hours
from latestturn.verdicts import Granted, Late, NoRoom, Verdict

ERROR_NAMES = [
    "NoName", "NoNumber", "NoHours", "NoLine", "TooMany", "Doubled", "Taken", "NoTicket",
    "NotBegun", "NoBooking", "NotKept", "NoBreak", "NoCounter",
]

FIELDS = ("name", "first", "last", "turn")


class Odd:
    """A thing that can be neither compared, written nor kept in a dict."""

    def __eq__(self, other):
        raise RuntimeError("not to be compared")

    __hash__ = None

    def __repr__(self):
        raise RuntimeError("not to be written")


def nested_list(depth):
    nested = []
    for _ in range(depth):
        nested = [nested]
    return nested


NO_NUMBERS = [True, False, None, 1.0, 1.5, float("nan"), "1", "", b"1", [1], (1,), {1: 1}, {1}, int, Odd(), mock.ANY]

NO_NAMES = [
    "", "1", "1a", "9ann", "A", "Ann", "aNN", "annE", "ann bo", " ann", "ann ", "a_b", "a-b", "_a", "a.", "a\n", "\na",
    "a\t", "a\0", "\u00e9", "a\u00e9", "\u0430nn", "a\u0661", "a\u00b2", "\u00aa", "\uff41", "a\uff11", "{", "`", "a{",
    "a`", "a/", "a:", "abcdefghi", "a12345678", "a" * 4000,
    None, True, False, 0, 1, 7, -1, 10 ** 5000, 1.5, b"ann", b"a", ["a"], ["ann"], ("a",), ("ann", 1), {"a": 1}, {"a"},
    str, len, Odd(), mock.ANY, nested_list(5000),
]


def long_queue(many, left=None):
    """So many tickets, of each of which so much is left, or 1 to 20 in turn."""
    return [(f"t{number}", left or number % 20 + 1) for number in range(many)]


def plain_run(queue, hours, begin):
    """The run, told another way: ticket by ticket, each at the first turns at which those ahead leave a counter."""
    served = {}
    for name, left in queue:
        turn = begin
        while left:
            if len(served.get(turn, [])) < hours.at(turn):
                served.setdefault(turn, []).append(name)
                left -= 1
            turn += 1
    return [(turn, served.get(turn, [])) for turn in range(begin, max(served, default=begin - 1) + 1)]


def plainly_late(queue, hours, begin, promises):
    """What point 62 tells of a Late one, or None where all promises hold."""
    run = plain_run(queue, hours, begin)
    for name, left in queue:
        turn = [turn for turn, names in run if name in names][-1]
        if name in promises and not turn <= promises[name]:
            return ("late", name, promises[name], turn, run)
    return None


class Rule:
    """Numbers that look like any, but are the same ones each time."""

    def __init__(self, state):
        self.state = state

    def below(self, bound):
        self.state = (self.state * 6364136223846793005 + 1442695040888963407) % 2 ** 64
        return (self.state >> 33) % bound

    def one_of(self, things):
        return things[self.below(len(things))]

    def queue(self, most_tickets, most_left):
        return [(f"t{number}", 1 + self.below(most_left)) for number in range(self.below(most_tickets + 1))]

    def hours(self):
        rows = [(1 + self.below(5), self.below(5)) for number in range(self.below(6))]
        return Hours(rows, 1 + self.below(4))

    def promises(self, latest):
        """Numbers about the latest turns, some of them just kept, some missed, some not there."""
        near = {name: turn + self.one_of([-1, 0, 0, 0, 1, 2, 9]) for name, turn in latest.items()}
        return {name: turn for name, turn in near.items() if self.below(4)}

    def kept_promises(self, latest):
        """Like promises, but none of them missed."""
        return {name: max(turn, latest[name]) for name, turn in self.promises(latest).items()}

    def begin(self, hours):
        return self.one_of([0, self.below(hours.end() + 1), hours.end(), hours.end() + self.below(9), 10 ** 5])


def made_halls():
    """Many tuples (queue, hours, begin): all quite small ones, and some of each greater size."""
    made = [([], 1), ([], 3), ([(1, 0)], 2), ([(1, 2), (2, 0)], 1), ([(2, 1), (1, 3)], 2)]
    for many in range(4):
        for lefts in itertools.product((1, 2, 3), repeat=many):
            for hours in [Hours(rows, rest) for rows, rest in made]:
                for begin in (0, 1, 7):
                    yield list(zip("abc", lefts)), hours, begin
    rule = Rule(7)
    for most_tickets, most_left, times in ((5, 4, 200), (12, 20, 60), (60, 20, 20)):
        for number in range(times):
            hours = rule.hours()
            yield rule.queue(most_tickets, most_left), hours, rule.begin(hours)
    for hours in (Hours([(9, 0), (5, 8), (20, 1)], 3), Hours([], 1), Hours([], 8)):
        yield long_queue(60), hours, 0
        yield long_queue(60, 20), hours, 11
        yield long_queue(60, 1), hours, 10 ** 5


# Two counters at the turns 0 and 1, none at 2, and one from 3 on.
HALL_HOURS = Hours([(2, 2), (1, 0)], 1)

# By these hours from turn 0 on: ann and bo, ann and bo, none, ann, cy.
COMING = [("ann", 3), ("bo", 2), ("cy", 1)]


def made_hall(coming=COMING, hours=HALL_HOURS):
    """A hall at turn 0, into which these came."""
    hall = Hall(hours)
    for name, most in coming:
        hall.come(name, most)
    return hall


def frozen(thing):
    """The thing in a form that doesn't change with it, its kinds told too."""
    if isinstance(thing, Hours):
        return ("Hours", frozen(thing.rows()), thing.rest())
    if isinstance(thing, Verdict):
        return (type(thing).__name__, frozen(vars(thing)))
    if isinstance(thing, dict):
        return ("dict", [(key, frozen(value)) for key, value in thing.items()])
    if isinstance(thing, (list, tuple)):
        return (type(thing).__name__, [frozen(part) for part in thing])
    return thing


def hall_told(hall):
    """All that a hall tells, in a form that doesn't change with it."""
    names, queue = hall.all_names(), hall.queue_now()
    states = [hall.state_of(name) for name in names]
    witnesses = [hall.witness_of(name) for name, left in queue]
    counted = (hall.now_turn(), queue, hall.hours_now(), hall.latest_now(), hall.told_now(), witnesses, names, states)
    return frozen(counted + (hall.log_told(), hall.bookings_now(), hall.breaks_now()))


def spoil(thing):
    """Changes every list and dict in the thing, however deep, those in the fields of verdicts too."""
    if isinstance(thing, Verdict):
        spoil(tuple(vars(thing).values()))
    if isinstance(thing, (list, tuple)):
        for part in thing:
            spoil(part)
    if isinstance(thing, dict):
        for part in thing.values():
            spoil(part)
        thing.clear()
    if isinstance(thing, list):
        thing.clear()
        thing.append("spoilt")


class RefusalCase(unittest.TestCase):
    def refusal(self, error_name, call, *handed):
        """The refusal of that very class, straight under HallError, that the call meets."""
        wanted = getattr(errors, error_name)
        try:
            call(*handed)
        except errors.HallError as refused:
            self.assertIs(type(refused), wanted)
            self.assertIsInstance(refused, ValueError)
            return refused
        self.fail(f"{error_name} was due")

    def refuses(self, error_name, call, *handed, **fields):
        """Like refusal; and the error has the fields that are told here, and no others."""
        refused = self.refusal(error_name, call, *handed)
        for field in FIELDS:
            if field not in fields:
                self.assertFalse(hasattr(refused, field), f"{error_name} has {field}")
            elif isinstance(fields[field], (int, str)):
                self.assertEqual(getattr(refused, field), fields[field])
                self.assertIs(type(getattr(refused, field)), type(fields[field]))
            else:
                self.assertIs(getattr(refused, field), fields[field])


class SharingCase(RefusalCase):
    def shares_nothing(self, call, handed):
        """Point 2: handed is a function that makes anew what the call is handed."""
        given = handed()
        before = frozen(given)
        told = call(*given)
        first = frozen(told)
        self.assertEqual(frozen(given), before, "what was handed in is changed")
        again = call(*given)
        self.assertEqual(frozen(again), first, "told otherwise when asked again")
        spoil(told)
        self.assertEqual(frozen(given), before, "told was what was handed in")
        self.assertEqual(frozen(again), first, "told was what had been told before")
        self.assertEqual(frozen(call(*given)), first, "told was what is kept")
        spoil(given)
        self.assertEqual(frozen(again), first, "changing it later changed something")

    def refuses_and_keeps(self, error_name, call, queue, hours, *handed, **fields):
        """Like refuses; and the queue and the hours that were handed in are as they were."""
        before = frozen((queue, hours))
        self.refuses(error_name, call, queue, hours, *handed, **fields)
        self.assertEqual(frozen((queue, hours)), before)


class VerdictCase(SharingCase):
    def is_of(self, verdict, queue, hours, begin):
        self.assertIs(type(verdict.queue), list)
        self.assertEqual((verdict.queue, verdict.begin), (queue, begin))
        self.assertEqual(frozen(verdict.hours), frozen(hours))

    def is_granted(self, verdict, queue, hours, begin):
        self.assertIs(type(verdict), Granted)
        self.is_of(verdict, queue, hours, begin)
        self.assertIs(verdict.granted(), True)
        self.assertEqual(verdict.word(), "granted")
        self.assertEqual(verdict.told(), ("granted",))

    def is_no_room(self, verdict, turn, queue, hours, begin):
        self.assertIs(type(verdict), NoRoom)
        self.is_of(verdict, queue, hours, begin)
        self.assertEqual(verdict.turn, turn)
        self.assertIs(verdict.granted(), False)
        self.assertEqual(verdict.word(), "no counter")
        self.assertEqual(verdict.told(), ("no counter", turn))

    def is_late(self, verdict, name, number, turn, run, queue, hours, begin):
        self.assertIs(type(verdict), Late)
        self.is_of(verdict, queue, hours, begin)
        self.assertEqual((verdict.name, verdict.promised, verdict.turn, verdict.run), (name, number, turn, run))
        self.assertIs(verdict.granted(), False)
        self.assertEqual(verdict.word(), "late")
        self.assertEqual(verdict.told(), ("late", name, number, turn, run))

    def holds_with(self, verdict, promises, told):
        self.assertIs(verdict.holds(promises), told, promises)


class HallCase(VerdictCase):
    def refuses_deed(self, error_name, hall, deed, *handed, **fields):
        """Like refuses, of a method of the hall; and the hall tells all as before."""
        before = hall_told(hall)
        self.refuses(error_name, getattr(hall, deed), *handed, **fields)
        self.assertEqual(hall_told(hall), before, "what was refused changed something")

    def changes_nothing(self, hall, deed, *handed):
        """What the deed tells; and the hall tells all as before."""
        before = hall_told(hall)
        told = getattr(hall, deed)(*handed)
        self.assertEqual(hall_told(hall), before, "something was changed")
        return told

    def has_counters(self, hall, counters):
        """From the hall's turn on there are so many counters, turn by turn."""
        now = hall.now_turn()
        self.assertEqual([hall.hours_now().at(now + turn) for turn in range(len(counters))], counters)
