"""The promise [7], and with it [89]: histories of drawn deeds, held against a hall that is told another way."""

import itertools
import string
import unittest

from latestturn.hall import Hall
from latestturn.hours import Hours
from latestturn.latest import shows_latest
from latestturn.verdicts import Verdict
from tests.helper import HallCase, Rule, hall_told, plain_run, plainly_late

MADE = [
    ([], 1), ([], 2), ([], 8), ([(3, 2), (2, 0), (9, 1)], 2), ([(5, 0), (9, 4)], 1), ([(1, 1), (1, 0)] * 8, 3),
    ([(2, 8), (30, 1)], 1), ([(40, 3)], 1),
]

LETTERS = string.ascii_lowercase

# Deeds that make nobody later.
EASING = ("come", "tell", "ends", "leave", "miss", "reopen")


def plain_number(thing, low, high):
    return type(thing) is int and low <= thing <= high


def plain_name(thing):
    if type(thing) is not str or not 1 <= len(thing) <= 8 or thing[0] not in LETTERS:
        return False
    return not set(thing) - set(LETTERS + string.digits)


class Refused(Exception):
    """A refusal that is due: the name of its class, and its fields."""


class Kept:
    """A booking, or a break, which has no name."""

    def __init__(self, name, first, last):
        self.name, self.first, self.last = name, first, last
        self.given_up = False

    def turns(self):
        return range(self.first, self.last + 1)


class Person:
    def __init__(self, most, came):
        self.most, self.came = most, came
        self.word = "waiting"
        self.served_at = []
        self.numbers = []

    def left(self):
        return 0 if self.word == "served" else self.most - len(self.served_at)

    def told(self):
        return self.word, self.most, self.came, len(self.served_at), self.left(), list(self.numbers)


class Counters:
    """Like the hours of a hall; with one less at some turns."""

    def __init__(self, hall, turns):
        self.hall, self.turns = hall, turns

    def at(self, turn):
        return self.hall.at(turn) - (turn in self.turns)


class PlainHall:
    """A hall told another way: it keeps what was done, and counts all else anew each time that it is asked."""

    def __init__(self, hours):
        self.hours = hours
        self.turn = 0
        self.people = {}
        self.rank = []
        self.kept = []
        self.log = []

    def standing(self):
        return [kept for kept in self.kept if not kept.given_up and kept.last >= self.turn]

    def at(self, turn):
        return self.hours.at(turn) - sum(turn in kept.turns() for kept in self.standing())

    def queue(self):
        return [(name, self.people[name].left()) for name in self.rank]

    def latest(self):
        ends = {}
        for turn, names in plain_run(self.queue(), self, self.turn):
            ends.update({name: turn for name in names})
        return ends

    def told(self):
        return {name: self.people[name].numbers[-1] for name in self.rank}

    def waits(self, name):
        if name not in self.rank:
            raise Refused("NoTicket", {"name": name})

    def free(self, name):
        if not plain_name(name):
            raise Refused("NoName", {})
        if name in self.people or name in [kept.name for kept in self.kept]:
            raise Refused("Taken", {"name": name})

    def come(self, name, most):
        self.free(name)
        if not plain_number(most, 1, 20):
            raise Refused("NoNumber", {})
        if len(self.rank) == 60:
            raise Refused("TooMany", {})
        self.people[name] = Person(most, self.turn)
        self.rank.append(name)
        return self.tell(name)

    def tell(self, name):
        self.waits(name)
        self.people[name].numbers.append(self.latest()[name])
        return self.people[name].numbers[-1]

    def ends(self, name):
        self.waits(name)
        if not self.people[name].served_at:
            raise Refused("NotBegun", {"name": name})
        self.rank.remove(name)
        self.people[name].word = "served"

    def leave(self, name):
        self.waits(name)
        self.rank.remove(name)
        self.people[name].word = "gone"

    def pass_turns(self, many):
        if not plain_number(many, 0, 100):
            raise Refused("NoNumber", {})
        rows = []
        for number in range(many):
            names = [name for place, name in enumerate(self.rank) if place < self.at(self.turn)]
            for name in names:
                self.people[name].served_at.append(self.turn)
            for name in [name for name in names if self.people[name].left() == 0]:
                self.ends(name)
            rows.append((self.turn, names))
            self.turn += 1
        self.log += rows
        return rows

    def verdict(self, queue, turns=range(0)):
        for turn in turns:
            if self.at(turn) == 0:
                return ("no counter", turn)
        return plainly_late(queue, Counters(self, turns), self.turn, self.told()) or ("granted",)

    def keep(self, kept):
        if not plain_number(kept.first, self.turn, 10 ** 5) or not plain_number(kept.last, kept.first, 10 ** 5):
            raise Refused("NoNumber", {})
        if len(kept.turns()) > 50:
            raise Refused("NoNumber", {})
        told = self.verdict(self.queue(), kept.turns())
        if told == ("granted",):
            self.kept.append(kept)
        return told

    def book(self, name, first, last):
        self.free(name)
        return self.keep(Kept(name, first, last))

    def close(self, first, last):
        return self.keep(Kept(None, first, last))

    def miss(self, name):
        for kept in self.standing():
            if name is not None and kept.name == name:
                kept.given_up = True
                return
        raise Refused("NoBooking", {"name": name})

    def reopen(self, first, last):
        for kept in self.standing():
            if (kept.name, kept.first, kept.last) == (None, first, last):
                kept.given_up = True
                return
        raise Refused("NoBreak", {"first": first, "last": last})

    def lift(self, name, ahead):
        self.waits(name)
        self.waits(ahead)
        rank = list(self.rank)
        if rank.index(ahead) < rank.index(name):
            rank.remove(name)
            rank.insert(rank.index(ahead), name)
        told = self.verdict([(each, self.people[each].left()) for each in rank])
        if told == ("granted",):
            self.rank = rank
        return told

    def bookings(self):
        return [(kept.name, kept.first, kept.last) for kept in self.standing() if kept.name is not None]

    def breaks(self):
        return [(kept.first, kept.last) for kept in self.standing() if kept.name is None]


def any_deed(rule, hall, names):
    """A tuple (deed, what is handed in), mostly one that may be done, with so many names to choose of."""
    now, waiting = hall.now_turn(), [name for name, left in hall.queue_now()] or ["zed"]
    came = hall.all_names() + [booking[0] for booking in hall.bookings_now()] + ["zed", "", "Ann"]
    name, other = rule.one_of([rule.one_of(waiting), rule.one_of(came)]), rule.one_of(waiting)
    first = now + rule.one_of([0, rule.below(4), rule.below(30)])
    last = first + rule.one_of([0, rule.below(4), rule.below(12)])
    standing = rule.one_of(hall.breaks_now() + [(first, last)])
    booked = rule.one_of([booking[0] for booking in hall.bookings_now()] + [name])
    new = rule.one_of([f"n{rule.below(names)}", rule.one_of(came)]) if rule.below(4) == 0 else f"n{rule.below(names)}"
    return rule.one_of([
        ("come", (new, 1 + rule.below(6))), ("come", (new, 1 + rule.below(20))), ("come", (new, 1 + rule.below(3))),
        ("come", (new, rule.one_of([0, 21, -1, True, None, "1"]))), ("tell", (name,)), ("tell", (other,)),
        ("ends", (name,)), ("ends", (waiting[0],)), ("leave", (name,)), ("pass_turns", (1,)),
        ("pass_turns", (rule.below(4),)), ("pass_turns", (rule.one_of([0, 7, 101, -1, None]),)),
        ("book", (new, first, last)), ("book", (new, first, last)), ("close", (first, last)), ("close", (first, last)),
        ("close", (rule.one_of([now - 1, last + 1, None]), last)),
        ("book", (new, first, rule.one_of([first + 50, "9"]))), ("miss", (booked,)), ("reopen", standing),
        ("lift", (name, other)), ("lift", (other, waiting[0])), ("lift", (waiting[-1], name)),
    ])


class HistoryCase(HallCase):
    def tells_alike(self, hall, plain):
        self.assertEqual((hall.now_turn(), hall.queue_now()), (plain.turn, plain.queue()))
        self.assertEqual((hall.latest_now(), hall.told_now()), (plain.latest(), plain.told()))
        self.assertEqual(hall.all_names(), list(plain.people))
        states = [hall.state_of(name) for name in hall.all_names()]
        self.assertEqual(states, [person.told() for person in plain.people.values()])
        self.assertEqual((hall.bookings_now(), hall.breaks_now()), (plain.bookings(), plain.breaks()))
        self.has_counters(hall, [plain.at(plain.turn + turn) for turn in range(60)])

    def does_alike(self, hall, plain, deed, handed):
        """The deed is done in both, and both tell alike; told is what the hall tells, or the name of its refusal."""
        try:
            due = getattr(plain, deed)(*handed)
        except Refused as refused:
            self.refuses_deed(refused.args[0], hall, deed, *handed, **refused.args[1])
            return refused.args[0]
        told = getattr(hall, deed)(*handed)
        self.assertEqual(told.told() if isinstance(told, Verdict) else told, due, (deed, handed))
        return told

    def numbers_are_kept(self, hall):
        """No number that was told rises; nobody was or will be served later than any number they were told."""
        latest = dict(hall.latest_now())
        for turn, names in hall.log_told():
            for name in names:
                latest.setdefault(name, turn)
                latest[name] = max(turn, latest[name])
        for name in hall.all_names():
            numbers = hall.state_of(name)[5]
            self.assertEqual(numbers, sorted(numbers, reverse=True), name)
            if name in latest:
                self.assertLessEqual(latest[name], numbers[-1], name)
        for name, number in hall.told_now().items():
            self.assertEqual(hall.state_of(name)[5][-1], number)
            self.assertLessEqual(hall.latest_now()[name], number)

    def could_not_be_lower(self, hall, name, number):
        """There is a way on, told turn by turn, in which that person is done at just that turn."""
        witness = hall.witness_of(name)
        self.assertEqual(witness[-1][0], number)
        self.assertIn(name, witness[-1][1])
        kept = hall.queue_now(), hall.hours_now(), hall.now_turn()
        self.assertIs(shows_latest(*kept, name, number, witness), True)
        self.assertEqual(sum(name in names for turn, names in witness), dict(hall.queue_now())[name])

    def is_granted_where_all_holds(self, verdict, before):
        """before is what the hall had: its hours, turn and told numbers."""
        hours, turn, told = before
        self.holds_with(verdict, told, True)
        self.assertEqual(verdict.begin, turn)
        if verdict.word() == "no counter":
            self.assertEqual(hours.at(verdict.turn), 0)
        else:
            late = plainly_late(verdict.queue, verdict.hours, turn, told)
            self.assertEqual(verdict.told(), late or ("granted",))

    def nobody_is_later(self, hall, latest, deed):
        for name, turn in hall.latest_now().items():
            if name in latest:
                self.assertLessEqual(turn, latest[name], (deed, name))

    def passes_by_rank(self, hall, queue, hours, rows):
        """At each turn the first by rank were served, as many as there are counters."""
        left = dict(queue)
        for turn, names in rows:
            waiting = [name for name in left if left[name]]
            self.assertEqual(names, waiting[:hours.at(turn)])
            for name in names:
                left[name] -= 1
        self.assertEqual(hall.queue_now(), [(name, many) for name, many in left.items() if many])

    def does(self, hall, plain, deed, handed):
        """Does the deed, and looks at all that point 7 says of it."""
        queue, latest = hall.queue_now(), hall.latest_now()
        before = hall.hours_now(), hall.now_turn(), hall.told_now()
        told = self.does_alike(hall, plain, deed, handed)
        if type(told) is str:
            return told
        if deed in ("come", "tell"):
            self.could_not_be_lower(hall, handed[0], told)
        if deed == "pass_turns":
            self.passes_by_rank(hall, queue, before[0], told)
            self.assertEqual(hall.latest_now(), {name: latest[name] for name, left in hall.queue_now()})
        if deed in EASING:
            self.nobody_is_later(hall, latest, deed)
        if isinstance(told, Verdict):
            self.is_granted_where_all_holds(told, before)
            return told.word()
        return "done"

    def ends_as_told(self, hall):
        """Where nothing more is done, all are done at just their latest turns."""
        latest, done = hall.latest_now(), {}
        while hall.queue_now():
            for turn, names in hall.pass_turns(100):
                done.update({name: turn for name in names})
        self.assertEqual(done, latest)
        self.numbers_are_kept(hall)

    def begins_with_what_is_left(self, hall):
        """The latest turns are those of a hall that begins with what is left."""
        now, hours = hall.now_turn(), hall.hours_now()
        counters = [hours.at(turn) for turn in range(now, hours.end())]
        rows = [(len(list(many)), each) for each, many in itertools.groupby(counters)]
        if len(rows) <= 16 and all(turns <= 100 for turns, each in rows):
            other = Hall(Hours(rows, hours.rest()))
            for name, left in hall.queue_now():
                other.come(name, left)
            self.assertEqual({name: turn + now for name, turn in other.told_now().items()}, hall.latest_now())
            self.assertEqual(other.latest_now(), other.told_now())
            return 1
        return 0


class Histories(HistoryCase):
    def test_7_drawn_deeds(self):
        rule, seen, begun = Rule(7), {}, 0
        for rows, rest in MADE:
            for times in range(4):
                hall, plain = Hall(Hours(rows, rest)), PlainHall(Hours(rows, rest))
                for number in range(80):
                    deed, handed = any_deed(rule, hall, 200)
                    outcome = self.does(hall, plain, deed, handed)
                    seen[deed, outcome] = seen.get((deed, outcome), 0) + 1
                    self.tells_alike(hall, plain)
                    if number % 8 == 0:
                        self.numbers_are_kept(hall)
                        begun += self.begins_with_what_is_left(hall)
                self.assertEqual(hall.log_told(), plain.log)
                self.ends_as_told(hall)
        self.assertGreater(begun, 100)
        self.all_kinds_of_deeds_were_seen(seen)

    def all_kinds_of_deeds_were_seen(self, seen):
        for deed in ("come", "tell", "ends", "leave", "pass_turns", "miss", "reopen"):
            self.assertGreater(seen.get((deed, "done"), 0), 15, (deed, seen))
        for deed in ("book", "close"):
            for outcome in ("granted", "late", "no counter", "NoNumber"):
                self.assertGreater(seen.get((deed, outcome), 0), 15, (deed, outcome, seen))
        for deed, outcome in (("lift", "granted"), ("lift", "late"), ("lift", "NoTicket"), ("come", "NoNumber"),
                              ("come", "Taken"), ("book", "Taken"), ("ends", "NotBegun"), ("ends", "NoTicket"),
                              ("leave", "NoTicket"), ("tell", "NoTicket"), ("miss", "NoBooking"), ("reopen", "NoBreak"),
                              ("pass_turns", "NoNumber"), ("come", "NoName"), ("book", "NoName")):
            self.assertGreater(seen.get((deed, outcome), 0), 5, (deed, outcome, seen))

    def test_7_long_histories(self):
        rule = Rule(77)
        for rows, rest in (([], 2), ([(40, 1), (5, 0)], 3)):
            hall, plain = Hall(Hours(rows, rest)), PlainHall(Hours(rows, rest))
            for number in range(400):
                self.does_alike(hall, plain, *any_deed(rule, hall, 900))
                if number % 40 == 39:
                    self.tells_alike(hall, plain)
                    self.numbers_are_kept(hall)
            self.assertEqual(hall.log_told(), plain.log)
            self.ends_as_told(hall)

    def test_7_all_short_histories(self):
        # Somebody who was there first leaves at once, so that the others are told more than they need.
        ahead = [("come", ("x", 1)), ("come", ("ann", 2)), ("come", ("bo", 2)), ("come", ("cy", 2)), ("leave", ("x",))]
        deeds = [("come", ("dee", 2)), ("tell", ("cy",)), ("ends", ("ann",)), ("leave", ("ann",)), ("leave", ("bo",)),
                 ("pass_turns", (1,)), ("book", ("fay", 1, 2)), ("close", (2, 2)), ("close", (4, 4)),
                 ("miss", ("fay",)), ("reopen", (2, 2)), ("lift", ("cy", "ann")), ("lift", ("bo", "ann"))]
        for drawn in itertools.product(deeds, repeat=3):
            hall, plain = Hall(Hours([(2, 2), (1, 1)], 2)), PlainHall(Hours([(2, 2), (1, 1)], 2))
            for deed, handed in ahead + list(drawn):
                self.does_alike(hall, plain, deed, handed)
            self.tells_alike(hall, plain)
            self.numbers_are_kept(hall)

    def test_7_a_full_hall(self):
        hall, plain = Hall(Hours([(5, 3)], 2)), PlainHall(Hours([(5, 3)], 2))
        rule = Rule(777)
        for number in range(60):
            self.assertEqual(self.does(hall, plain, "come", (f"t{number}", 1 + rule.below(20))), "done")
        self.assertEqual(self.does(hall, plain, "come", ("ann", 1)), "TooMany")
        for number in range(0, 60, 7):
            self.assertEqual(self.does(hall, plain, "leave", (f"t{number}",)), "done")
            for deed, handed in (("lift", ("t59", f"t{number + 2}")), ("close", (number, number + 1)),
                                 ("tell", ("t58",)), ("book", (f"b{number}", number + 9, number + 20)),
                                 ("pass_turns", (1,))):
                self.does(hall, plain, deed, handed)
        self.tells_alike(hall, plain)
        self.numbers_are_kept(hall)
        self.ends_as_told(hall)

    def test_2_histories_that_are_alike_tell_alike(self):
        one, two = Hall(Hours([(9, 2)], 1)), Hall(Hours([(9, 2)], 1))
        rule = Rule(2)
        for number in range(150):
            deed, handed = any_deed(rule, one, 200)
            for hall in (one, two):
                try:
                    getattr(hall, deed)(*handed)
                except ValueError:
                    pass
            if number % 10 == 0:
                self.assertEqual(hall_told(one), hall_told(two))
        self.assertEqual(hall_told(one), hall_told(two))


if __name__ == "__main__":
    unittest.main()
