"""Lifts [71] and [72], and of them what points 2 to 7 say."""

import unittest

from latestturn.hours import Hours
from latestturn.latest import latest_all
from latestturn.lifts import ask_lift, foremost
from latestturn.queues import placed
from latestturn.verdicts import settled
from tests.helper import NO_NAMES, Rule, VerdictCase, frozen, long_queue, made_halls, plain_run, plainly_late

FAR = 10 ** 30

# By these hours, from turn 0 on: ann and bo, none, ann, ann, cy and dee, cy.
QUEUE = [("ann", 3), ("bo", 1), ("cy", 2), ("dee", 1)]
HOURS = Hours([(1, 2), (1, 0), (2, 1)], 3)
LATEST = {"ann": 3, "bo": 0, "cy": 5, "dee": 4}
PROMISES = [{}, LATEST, {"ann": 2}, {"cy": 4}, {"ann": -FAR, "bo": FAR}, {"zed": -1}]
NO_TICKETS = NO_NAMES + ["zed", "an", "annn", "b", "a1"]

# With dee first: dee and ann, none, ann, ann, bo and cy, cy.
DEE_FIRST = [("dee", 1), ("ann", 3), ("bo", 1), ("cy", 2)]
DEE_FIRST_RUN = [(0, ["dee", "ann"]), (1, []), (2, ["ann"]), (3, ["ann"]), (4, ["bo", "cy"]), (5, ["cy"])]
DEE_FIRST_LATEST = {"dee": 0, "ann": 3, "bo": 4, "cy": 5}


def promised(**numbers):
    """The promises that are just kept, but for those told here."""
    return {**LATEST, **numbers}


def plainly_placed(queue, name, place):
    """The queue with the ticket taken out and put in at the place."""
    ticket = [each for each in queue if each[0] == name]
    others = [each for each in queue if each[0] != name]
    return others[:place] + ticket + others[place:]


def plainly_lifted(queue, name, ahead):
    names = [each for each, left in queue]
    return plainly_placed(queue, name, min(names.index(name), names.index(ahead)))


class LiftCase(VerdictCase):
    def is_verdict(self, verdict, queue, hours, begin, promises):
        """The verdict is the one that settling this queue tells, is of it, and holds."""
        told = plainly_late(queue, hours, begin, promises) or ("granted",)
        if told == ("granted",):
            self.is_granted(verdict, queue, hours, begin)
        else:
            self.is_late(verdict, *told[1:], queue, hours, begin)
        self.holds_with(verdict, promises, True)
        return told

    def lifts(self, queue, hours, begin, promises, name, ahead):
        """Asks, and tells what the verdict tells."""
        verdict = ask_lift(queue, hours, begin, promises, name, ahead)
        return self.is_verdict(verdict, plainly_lifted(queue, name, ahead), hours, begin, promises)

    def finds(self, queue, hours, begin, promises, name):
        """Looks for the foremost place, and tells it and what the verdicts tell."""
        found = foremost(queue, hours, begin, promises, name)
        self.assertIs(type(found), tuple)
        place, verdicts = found
        self.assertIs(type(place), int)
        self.assertIs(type(verdicts), list)
        self.assertEqual(len(verdicts), place)
        told = [self.is_verdict(verdict, plainly_placed(queue, name, number), hours, begin, promises)
                for number, verdict in enumerate(verdicts)]
        self.assertNotIn(("granted",), told)
        self.assertIsNone(plainly_late(plainly_placed(queue, name, place), hours, begin, promises))
        return place, told

    def places(self, queue, hours, begin, promises, name):
        """At which places from 0 up to its own the ticket may be placed."""
        own = [each for each, left in queue].index(name)
        return [settled(placed(queue, name, place), hours, begin, promises).granted() for place in range(own + 1)]


class Asking(LiftCase):
    def test_granted(self):
        for promises in ({}, DEE_FIRST_LATEST, {"zed": -FAR}, {"ann": 3, "cy": FAR}):
            verdict = ask_lift(QUEUE, HOURS, 0, promises, "dee", "ann")
            self.is_granted(verdict, DEE_FIRST, HOURS, 0)
            self.holds_with(verdict, promises, True)

    def test_late(self):
        verdict = ask_lift(QUEUE, HOURS, 0, promised(zed=0), "dee", "ann")
        self.is_late(verdict, "bo", 0, 4, DEE_FIRST_RUN, DEE_FIRST, HOURS, 0)
        self.holds_with(verdict, promised(zed=0), True)

    def test_just_ahead_of_the_other(self):
        for ahead, names in (("ann", ["dee", "ann", "bo", "cy"]), ("bo", ["ann", "dee", "bo", "cy"]),
                             ("cy", ["ann", "bo", "dee", "cy"])):
            verdict = ask_lift(QUEUE, HOURS, 0, {}, "dee", ahead)
            self.assertEqual([name for name, left in verdict.queue], names)
            self.assertEqual(dict(verdict.queue), dict(QUEUE))

    def test_every_lift(self):
        for name in LATEST:
            for ahead in LATEST:
                for begin in (0, 1, 4, 10 ** 5):
                    for promises in PROMISES:
                        self.lifts(QUEUE, HOURS, begin, promises, name, ahead)

    def test_just_kept_and_missed_by_one(self):
        for name, turn in DEE_FIRST_LATEST.items():
            self.assertEqual(self.lifts(QUEUE, HOURS, 0, {name: turn}, "dee", "ann"), ("granted",))
            for promises in ({name: turn - 1}, {**DEE_FIRST_LATEST, name: turn - 1}):
                told = self.lifts(QUEUE, HOURS, 0, promises, "dee", "ann")
                self.assertEqual(told, ("late", name, turn - 1, turn, DEE_FIRST_RUN))

    def test_the_first_late_one_by_the_lifted_rank(self):
        # Lifted, dee ranks first; as it is, ann does.
        self.assertEqual(self.lifts(QUEUE, HOURS, 0, {"ann": -1, "dee": -1}, "dee", "ann")[1], "dee")
        self.assertEqual(self.lifts(QUEUE, HOURS, 0, {"ann": -1, "dee": -1}, "dee", "bo")[1], "ann")
        self.assertEqual(self.lifts(QUEUE, HOURS, 0, {"cy": -1, "bo": -1}, "dee", "ann")[1], "bo")

    def test_one_who_stands_ahead_already(self):
        for name, ahead in (("ann", "bo"), ("ann", "dee"), ("bo", "cy"), ("cy", "dee")):
            self.is_granted(ask_lift(QUEUE, HOURS, 0, LATEST, name, ahead), QUEUE, HOURS, 0)
            for late, turn in LATEST.items():
                verdict = ask_lift(QUEUE, HOURS, 0, promised(**{late: turn - 1}), name, ahead)
                self.is_late(verdict, late, turn - 1, turn, plain_run(QUEUE, HOURS, 0), QUEUE, HOURS, 0)

    def test_one_ahead_of_itself(self):
        for name in LATEST:
            self.is_granted(ask_lift(QUEUE, HOURS, 0, LATEST, name, name), QUEUE, HOURS, 0)
            for late, turn in LATEST.items():
                verdict = ask_lift(QUEUE, HOURS, 0, promised(**{late: turn - 1}), name, name)
                self.is_late(verdict, late, turn - 1, turn, plain_run(QUEUE, HOURS, 0), QUEUE, HOURS, 0)

    def test_the_last_one_ahead_of_the_first(self):
        queue = long_queue(60, 1)
        told = self.lifts(queue, Hours([], 1), 0, latest_all(queue, Hours([], 1), 0), "t59", "t0")
        self.assertEqual(told[:4], ("late", "t0", 0, 1))
        self.assertEqual(self.lifts(queue, Hours([], 1), 0, {"t58": 59, "t59": 0}, "t59", "t0"), ("granted",))
        self.assertEqual(self.lifts([("a", 2)], HOURS, 0, {"a": 2}, "a", "a"), ("granted",))

    def test_no_promises_and_those_of_nobody(self):
        for promises in ({}, {"zed": -1, "": -FAR, "an": 0}):
            for name in LATEST:
                for ahead in LATEST:
                    self.assertEqual(self.lifts(QUEUE, HOURS, 0, promises, name, ahead), ("granted",))

    def test_a_lift_may_mend_a_promise(self):
        self.assertEqual(self.lifts(QUEUE, HOURS, 0, {"dee": 0}, "dee", "ann"), ("granted",))
        self.assertEqual(self.lifts(QUEUE, HOURS, 0, {"dee": 0}, "dee", "cy")[:4], ("late", "dee", 0, 4))

    def test_begin_counts(self):
        self.assertEqual(self.lifts(QUEUE, HOURS, 2, {"dee": 2, "ann": 4}, "dee", "ann")[:4], ("late", "ann", 4, 5))
        self.assertEqual(self.lifts(QUEUE, HOURS, 2, {"dee": 2, "ann": 5}, "dee", "ann"), ("granted",))

    def test_no_ticket_of_the_first_name(self):
        for thing in NO_TICKETS:
            for promises in (LATEST, {"ann": -1}):
                for ahead in ("ann", "dee", "zed"):
                    call = (QUEUE, HOURS, 0, promises, thing, ahead)
                    self.refuses_and_keeps("NoTicket", ask_lift, *call, name=thing)
                self.refuses_and_keeps("NoTicket", ask_lift, [], HOURS, 0, promises, thing, thing, name=thing)

    def test_no_ticket_of_the_second_name(self):
        for thing in NO_TICKETS:
            for promises in (LATEST, {"ann": -1}):
                for name in ("ann", "dee"):
                    self.refuses_and_keeps("NoTicket", ask_lift, QUEUE, HOURS, 0, promises, name, thing, name=thing)

    def test_of_two_the_first_name_is_refused(self):
        for thing in NO_TICKETS:
            for other in ("zed", "who", None):
                self.refuses_and_keeps("NoTicket", ask_lift, QUEUE, HOURS, 0, LATEST, thing, other, name=thing)
                self.refuses_and_keeps("NoTicket", ask_lift, QUEUE, HOURS, 0, LATEST, other, thing, name=other)

    def test_no_tickets(self):
        for promises in PROMISES:
            self.refuses_and_keeps("NoTicket", ask_lift, [], HOURS, 0, promises, "ann", "bo", name="ann")
            self.refuses_and_keeps("NoTicket", ask_lift, QUEUE[:1], HOURS, 0, promises, "ann", "bo", name="bo")

    def test_made_halls(self):
        rule = Rule(71)
        seen = {"granted": 0, "late": 0}
        for queue, hours, begin in made_halls():
            promises = rule.kept_promises(latest_all(queue, hours, begin))
            if queue:
                name, ahead = rule.one_of(queue)[0], rule.one_of(queue)[0]
                seen[self.lifts(queue, hours, begin, promises, name, ahead)[0]] += 1
                seen[self.lifts(queue, hours, begin, promises, queue[-1][0], queue[0][0])[0]] += 1
        self.assertGreater(min(seen.values()), 100)


class Looking(LiftCase):
    def test_ordinary(self):
        place, verdicts = foremost(QUEUE, HOURS, 0, LATEST, "dee")
        self.assertEqual(place, 2)
        self.is_late(verdicts[0], "bo", 0, 4, DEE_FIRST_RUN, DEE_FIRST, HOURS, 0)
        run = [(0, ["ann", "dee"])] + DEE_FIRST_RUN[1:]
        self.is_late(verdicts[1], "bo", 0, 4, run, [QUEUE[0], QUEUE[3], QUEUE[1], QUEUE[2]], HOURS, 0)
        self.assertEqual(len(verdicts), 2)
        self.finds(QUEUE, HOURS, 0, LATEST, "dee")

    def test_the_first_place(self):
        for name in LATEST:
            for promises in ({}, {"zed": -FAR}, {each: FAR for each in LATEST}):
                self.assertEqual(self.finds(QUEUE, HOURS, 0, promises, name), (0, []))
        self.assertEqual(self.finds(QUEUE, HOURS, 0, LATEST, "bo"), (0, []))

    def test_the_first_one_of_the_queue(self):
        for promises in ({}, LATEST):
            self.assertEqual(self.finds(QUEUE, HOURS, 0, promises, "ann"), (0, []))
        self.assertEqual(self.finds([("a", 2)], HOURS, 1, {"a": 3}, "a"), (0, []))

    def test_its_own_place(self):
        queue, hours = [("a", 2), ("b", 1), ("c", 3), ("d", 2)], Hours([], 1)
        latest = latest_all(queue, hours, 3)
        for own, name in enumerate("abcd"):
            place, told = self.finds(queue, hours, 3, latest, name)
            self.assertEqual(place, own)
            # Whoever stands at the place is the first one who is done too late.
            self.assertEqual([each[1] for each in told], list("abcd"[:own]))

    def test_just_kept_and_missed_by_one(self):
        for number, place in ((3, 1), (4, 0), (5, 0)):
            self.assertEqual(self.finds(QUEUE[:3], HOURS, 0, {"ann": number}, "cy")[0], place)
        for number, place in ((0, 2), (3, 2), (4, 0)):
            self.assertEqual(self.finds(QUEUE, HOURS, 0, promised(bo=number), "dee")[0], place)

    def test_a_place_behind_it_will_not_do(self):
        queue, hours = [("a", 1), ("b", 2), ("c", 1), ("d", 1)], Hours([], 2)
        promises = {"a": 0, "b": 2, "c": 1, "d": 2}
        self.assertEqual(self.places(queue, hours, 0, promises, "d"), [True, True, False, True])
        self.assertEqual(self.finds(queue, hours, 0, promises, "d"), (0, []))

    def test_places_ahead_and_behind_it_will_not_do(self):
        queue, hours = [("a", 2), ("b", 2), ("c", 1), ("d", 1)], Hours([(1, 1)], 2)
        promises = {"a": 1, "b": 3, "c": 2, "d": 3}
        self.assertEqual(self.places(queue, hours, 0, promises, "d"), [False, True, False, True])
        place, told = self.finds(queue, hours, 0, promises, "d")
        self.assertEqual((place, told[0][:4]), (1, ("late", "a", 1, 2)))
        queue, hours = [("a", 1), ("b", 2), ("c", 2), ("d", 1), ("e", 1)], Hours([], 2)
        promises = {"a": 0, "b": 1, "c": 3, "d": 2, "e": 3}
        self.assertEqual(self.places(queue, hours, 0, promises, "e"), [False, False, True, False, True])
        self.assertEqual(self.finds(queue, hours, 0, promises, "e")[0], 2)

    def test_begin_counts(self):
        self.assertEqual(self.finds(QUEUE, HOURS, 4, latest_all(QUEUE, HOURS, 4), "dee")[0], 3)
        self.assertEqual(self.finds(QUEUE, HOURS, 10 ** 5, latest_all(QUEUE, HOURS, 10 ** 5), "dee")[0], 3)
        self.assertEqual(self.finds(QUEUE, HOURS, 0, LATEST, "dee")[0], 2)

    def test_each_verdict_is_the_one_that_settling_tells(self):
        queue = long_queue(9, 2)
        hours = Hours([(1, 3), (2, 1)], 2)
        latest = latest_all(queue, hours, 0)
        place, verdicts = foremost(queue, hours, 0, latest, "t8")
        self.assertEqual(len(verdicts), place)
        self.assertGreater(place, 5)
        for number, verdict in enumerate(verdicts):
            due = settled(placed(queue, "t8", number), hours, 0, latest)
            self.assertEqual(frozen(verdict), frozen(due))
            self.assertIs(due.granted(), False)
        self.assertIs(settled(placed(queue, "t8", place), hours, 0, latest).granted(), True)

    def test_no_ticket(self):
        for thing in NO_TICKETS:
            for promises in (LATEST, {}, {"zed": 5}):
                self.refuses_and_keeps("NoTicket", foremost, QUEUE, HOURS, 0, promises, thing, name=thing)
                self.refuses_and_keeps("NoTicket", foremost, [], HOURS, 0, promises, thing, name=thing)

    def test_no_ticket_goes_ahead_of_not_kept(self):
        for thing in NO_TICKETS:
            for promises in ({"ann": 2}, {"dee": -FAR}):
                self.refuses_and_keeps("NoTicket", foremost, QUEUE, HOURS, 0, promises, thing, name=thing)

    def test_not_kept(self):
        for name, turn in LATEST.items():
            for number in (turn - 1, -FAR):
                for promises in ({name: number}, promised(**{name: number}), {name: number, "zed": FAR}):
                    for asked in LATEST:
                        self.refuses_and_keeps("NotKept", foremost, QUEUE, HOURS, 0, promises, asked, name=name)

    def test_not_kept_of_the_first_by_rank(self):
        promises = {}
        for name in ("dee", "cy", "bo", "ann"):
            promises[name] = -1
            for asked in LATEST:
                self.refuses_and_keeps("NotKept", foremost, QUEUE, HOURS, 0, promises, asked, name=name)

    def test_not_kept_as_it_is_though_another_place_would_do(self):
        self.assertEqual(self.lifts(QUEUE, HOURS, 0, {"dee": 0}, "dee", "ann"), ("granted",))
        self.refuses_and_keeps("NotKept", foremost, QUEUE, HOURS, 0, {"dee": 0}, "dee", name="dee")
        self.refuses_and_keeps("NotKept", foremost, QUEUE, HOURS, 1, LATEST, "dee", name="ann")

    def test_sixty_tickets(self):
        queue, hours = long_queue(60, 20), Hours([], 1)
        place, verdicts = foremost(queue, hours, 0, latest_all(queue, hours, 0), "t59")
        self.assertEqual((place, len(verdicts)), (59, 59))
        self.assertEqual([verdict.name for verdict in verdicts], [name for name, left in queue[:59]])
        self.assertEqual({len(verdict.run) for verdict in verdicts}, {1200})
        self.assertEqual(self.finds(queue, hours, 0, {"t58": 1199}, "t59"), (0, []))

    def test_made_halls(self):
        rule = Rule(72)
        seen = {"first": 0, "amid": 0, "own": 0, "NotKept": 0}
        for queue, hours, begin in made_halls():
            if not 1 < len(queue) < 16:
                continue
            latest = latest_all(queue, hours, begin)
            for make in (rule.kept_promises, rule.kept_promises, rule.promises):
                promises = make(latest)
                own = 1 + rule.below(len(queue) - 1)
                name = queue[own][0]
                late = plainly_late(queue, hours, begin, promises)
                if late:
                    self.refuses_and_keeps("NotKept", foremost, queue, hours, begin, promises, name, name=late[1])
                    seen["NotKept"] += 1
                else:
                    place = self.finds(queue, hours, begin, promises, name)[0]
                    seen["first" if place == 0 else "own" if place == own else "amid"] += 1
        self.assertGreater(min(seen.values()), 40)


class NothingIsShared(LiftCase):
    def test_asking(self):
        for promises in PROMISES:
            for name, ahead in (("dee", "ann"), ("ann", "dee"), ("bo", "bo")):
                self.shares_nothing(ask_lift, lambda: (list(QUEUE), HOURS, 0, dict(promises), name, ahead))

    def test_looking(self):
        for promises in ({}, LATEST, {"zed": -1}):
            for name in LATEST:
                self.shares_nothing(foremost, lambda: (list(QUEUE), HOURS, 0, dict(promises), name))

    def test_the_verdicts_of_one_list_share_nothing(self):
        queue = long_queue(6, 2)
        verdicts = foremost(queue, Hours([], 1), 0, latest_all(queue, Hours([], 1), 0), "t5")[1]
        before = [frozen(verdict) for verdict in verdicts]
        for place, verdict in enumerate(verdicts):
            verdict.queue.clear()
            verdict.run[0][1].clear()
            self.assertEqual([frozen(each) for each in verdicts[place + 1:]], before[place + 1:])

    def test_refused_promises_stay(self):
        for error_name, call, handed in (("NoTicket", ask_lift, ("zed", "ann")), ("NoTicket", ask_lift, ("ann", "zed")),
                                         ("NoTicket", foremost, ("zed",)), ("NotKept", foremost, ("dee",))):
            promises = {"cy": 1, "ann": 2, "zed": -1}
            self.refusal(error_name, call, QUEUE, HOURS, 0, promises, *handed)
            self.assertEqual(list(promises.items()), [("cy", 1), ("ann", 2), ("zed", -1)])


if __name__ == "__main__":
    unittest.main()
