"""Verdicts [61] to [63], and of them what points 2 to 7 say."""

import itertools
import unittest

from latestturn.hours import Hours
from latestturn.latest import latest_all
from latestturn.runs import run_of
from latestturn.verdicts import Granted, Late, NoRoom, Verdict, settled
from tests.helper import Rule, VerdictCase, frozen, long_queue, made_halls, plain_run, plainly_late, spoil

FAR = 10 ** 30
QUEUE = [("ann", 3), ("bo", 1), ("cy", 2), ("dee", 1)]
HOURS = Hours([(1, 2), (1, 0), (2, 1)], 3)
RUN = [(0, ["ann", "bo"]), (1, []), (2, ["ann"]), (3, ["ann"]), (4, ["cy", "dee"]), (5, ["cy"])]
LATEST = {"ann": 3, "bo": 0, "cy": 5, "dee": 4}
PROMISES = [{}, LATEST, {"ann": 2}, {"cy": 4}, {"ann": -FAR, "bo": FAR}, {"zed": -1}]


def own(rows):
    return [(turn, list(names)) for turn, names in rows]


def promised(**numbers):
    """The promises that are just kept, but for those told here."""
    return {**LATEST, **numbers}


class HallCase(VerdictCase):
    """What a verdict is of is that of this file's queue, but where it is told otherwise."""

    def is_granted(self, verdict, queue=QUEUE, hours=HOURS, begin=0):
        VerdictCase.is_granted(self, verdict, queue, hours, begin)

    def is_late(self, verdict, name, number, turn, run=RUN, queue=QUEUE, hours=HOURS, begin=0):
        VerdictCase.is_late(self, verdict, name, number, turn, run, queue, hours, begin)


class Settling(HallCase):
    def test_just_kept(self):
        self.is_granted(settled(QUEUE, HOURS, 0, LATEST))

    def test_missed_by_one(self):
        for name, turn in LATEST.items():
            verdict = settled(QUEUE, HOURS, 0, promised(**{name: turn - 1}))
            self.is_late(verdict, name, turn - 1, turn)

    def test_more_than_kept(self):
        for more in (1, 10 ** 5, FAR):
            self.is_granted(settled(QUEUE, HOURS, 0, {name: turn + more for name, turn in LATEST.items()}))

    def test_numbers_of_any_size(self):
        for number in (-FAR, -1, 2):
            self.is_late(settled(QUEUE, HOURS, 0, {"ann": number}), "ann", number, 3)

    def test_no_promises(self):
        for begin in (0, 1, 4, 10 ** 5):
            self.is_granted(settled(QUEUE, HOURS, begin, {}), begin=begin)
        self.is_granted(settled([], HOURS, 3, {}), queue=[], begin=3)

    def test_one_promise_alone(self):
        for name, turn in LATEST.items():
            self.is_granted(settled(QUEUE, HOURS, 0, {name: turn}))
            self.is_late(settled(QUEUE, HOURS, 0, {name: turn - 1}), name, turn - 1, turn)

    def test_names_that_are_no_tickets(self):
        for name in ("zed", "an", "annn", "aaa", ""):
            self.is_granted(settled(QUEUE, HOURS, 0, {name: -FAR}))
            self.is_granted(settled(QUEUE, HOURS, 0, promised(**{name: -1})))
            self.is_granted(settled([], HOURS, 0, {name: -1}), queue=[])
            self.is_late(settled(QUEUE, HOURS, 0, {name: -1, "cy": 4}), "cy", 4, 5)

    def test_the_first_in_the_order_of_rank(self):
        for names in itertools.permutations(LATEST):
            for many in (1, 2, 3, 4):
                promises = {name: LATEST[name] - 1 for name in names[:many]}
                first = [name for name in LATEST if name in promises][0]
                self.is_late(settled(QUEUE, HOURS, 0, promises), first, LATEST[first] - 1, LATEST[first])

    def test_rank_is_neither_the_turn_nor_the_name(self):
        # dee is done ahead of cy, and alf stands behind both.
        self.is_late(settled(QUEUE, HOURS, 0, {"dee": 0, "cy": 0}), "cy", 0, 5)
        queue = QUEUE + [("alf", 1)]
        run = RUN[:4] + [(4, ["cy", "dee", "alf"]), (5, ["cy"])]
        self.is_late(settled(queue, HOURS, 0, {"alf": 0, "cy": 0}), "cy", 0, 5, run, queue)

    def test_the_whole_run(self):
        self.is_late(settled(QUEUE, HOURS, 0, {"bo": -1}), "bo", -1, 0, RUN)

    def test_begin(self):
        for begin in (1, 3, 4, 10 ** 5):
            latest = latest_all(QUEUE, HOURS, begin)
            self.is_granted(settled(QUEUE, HOURS, begin, latest), begin=begin)
            for name, turn in latest.items():
                verdict = settled(QUEUE, HOURS, begin, {**latest, name: turn - 1})
                self.is_late(verdict, name, turn - 1, turn, plain_run(QUEUE, HOURS, begin), begin=begin)

    def test_one_ticket(self):
        queue, hours = [("a", 20)], Hours([(3, 0)], 1)
        run = [(turn, ["a"] if turn > 2 else []) for turn in range(1, 23)]
        self.is_granted(settled(queue, hours, 1, {"a": 22}), queue, hours, 1)
        self.is_late(settled(queue, hours, 1, {"a": 21}), "a", 21, 22, run, queue, hours, 1)

    def test_sixty_tickets(self):
        queue, hours = long_queue(60, 20), Hours([], 1)
        latest = latest_all(queue, hours, 0)
        self.is_granted(settled(queue, hours, 0, latest), queue, hours)
        run = plain_run(queue, hours, 0)
        self.is_late(settled(queue, hours, 0, {**latest, "t59": 1198}), "t59", 1198, 1199, run, queue, hours)

    def test_made_halls(self):
        rule = Rule(5)
        seen = {"granted": 0, "late": 0}
        for queue, hours, begin in made_halls():
            latest = latest_all(queue, hours, begin)
            promises = {name: turn + rule.below(9) - (rule.below(6) == 0) for name, turn in latest.items()}
            for name, left in queue:
                if rule.below(4) == 0:
                    del promises[name]
            verdict = settled(queue, hours, begin, promises)
            due = plainly_late(queue, hours, begin, promises) or ("granted",)
            self.assertEqual(verdict.told(), due)
            self.is_of(verdict, queue, hours, begin)
            self.holds_with(verdict, promises, True)
            seen[verdict.word()] += 1
        self.assertGreater(min(seen.values()), 40)

    def test_all_ahead_end_within_their_promises(self):
        rule = Rule(6)
        for queue, hours, begin in made_halls():
            promises = {name: turn + rule.below(5) - 1 for name, turn in latest_all(queue, hours, begin).items()}
            verdict = settled(queue, hours, begin, promises)
            if not verdict.granted():
                for name, left in queue[:[each for each, more in queue].index(verdict.name)]:
                    self.assertLessEqual(max(turn for turn, names in verdict.run if name in names), promises[name])


class PlainVerdicts(HallCase):
    def test_by_hand(self):
        for queue in ([], QUEUE, long_queue(60)):
            for begin in (0, 3, 10 ** 5):
                verdict = Verdict(queue, HOURS, begin)
                self.assertIs(type(verdict), Verdict)
                self.is_of(verdict, queue, HOURS, begin)
                self.assertIs(verdict.granted(), False)
                self.assertEqual(verdict.word(), "open")
                self.assertEqual(verdict.told(), ("open",))

    def test_it_never_holds(self):
        for promises in PROMISES:
            self.holds_with(Verdict(QUEUE, HOURS, 0), promises, False)
            self.holds_with(Verdict([], HOURS, 0), promises, False)

    def test_classes(self):
        for kind in (Granted, NoRoom, Late):
            self.assertEqual(kind.__bases__, (Verdict,))


class GrantedVerdicts(HallCase):
    def test_by_hand(self):
        for queue in ([], QUEUE, long_queue(60)):
            for begin in (0, 3, 10 ** 5):
                self.is_granted(Granted(queue, HOURS, begin), queue, HOURS, begin)

    def test_it_holds_where_all_promises_hold(self):
        for verdict in (Granted(QUEUE, HOURS, 0), settled(QUEUE, HOURS, 0, {})):
            self.holds_with(verdict, {}, True)
            self.holds_with(verdict, LATEST, True)
            self.holds_with(verdict, {"zed": -1}, True)
            self.holds_with(verdict, promised(zed=-1), True)
            for name, turn in LATEST.items():
                self.holds_with(verdict, {name: turn}, True)
                self.holds_with(verdict, {name: turn - 1}, False)
                self.holds_with(verdict, promised(**{name: turn + 1}), True)
                self.holds_with(verdict, promised(**{name: turn - 1}), False)
                self.holds_with(verdict, promised(**{name: -FAR}), False)

    def test_of_no_tickets(self):
        for promises in PROMISES:
            self.holds_with(Granted([], HOURS, 0), promises, True)

    def test_begin_and_hours_count(self):
        self.holds_with(Granted(QUEUE, HOURS, 1), LATEST, False)
        self.holds_with(Granted(QUEUE, HOURS.less(3, 3), 0), LATEST, False)
        self.holds_with(Granted(QUEUE, HOURS.more(3, 3), 0), LATEST, True)

    def test_a_granted_one_by_hand_is_granted_though_it_does_not_hold(self):
        verdict = Granted(QUEUE, HOURS, 0)
        self.holds_with(verdict, {"ann": 2}, False)
        self.is_granted(verdict)


class NoRoomVerdicts(HallCase):
    def test_by_hand(self):
        for turn in (0, 1, 7, 10 ** 5, -1, FAR):
            self.is_no_room(NoRoom(QUEUE, HOURS, 3, turn), turn, QUEUE, HOURS, 3)

    def test_it_holds_where_there_is_no_counter(self):
        hours = Hours([(2, 0), (3, 1), (2, 0)], 1)
        for begin in range(9):
            for turn in list(range(-3, 12)) + [-FAR, 10 ** 5, FAR]:
                due = turn >= begin and turn in (0, 1, 5, 6)
                for promises in PROMISES:
                    self.holds_with(NoRoom(QUEUE, hours, begin, turn), promises, due)
                    self.holds_with(NoRoom([], hours, begin, turn), promises, due)

    def test_by_hours_with_a_counter_less(self):
        hours = Hours([], 1).less(10 ** 5, 10 ** 5)
        self.holds_with(NoRoom(QUEUE, hours, 10 ** 5, 10 ** 5), {}, True)
        self.holds_with(NoRoom(QUEUE, hours, 10 ** 5, 10 ** 5 + 1), {}, False)
        self.holds_with(NoRoom(QUEUE, hours, 0, 10 ** 5 - 1), {}, False)


class LateVerdicts(HallCase):
    def late(self, name="cy", number=4, turn=5, run=RUN, queue=QUEUE, hours=HOURS, begin=0):
        return Late(queue, hours, begin, name, number, turn, run)

    def test_by_hand(self):
        self.is_late(self.late(), "cy", 4, 5)
        for run in ([], RUN[::-1], RUN + RUN, [(-FAR, ["zed", "zed", ""]), (FAR, [])]):
            verdict = self.late("Zed!", FAR, -FAR, run, [], HOURS, 7)
            self.is_late(verdict, "Zed!", FAR, -FAR, run, [], HOURS, 7)
            self.holds_with(verdict, {"Zed!": FAR}, False)

    def test_it_holds(self):
        for name, turn in LATEST.items():
            for number in (turn - 1, turn - 2, -FAR):
                self.holds_with(self.late(name, number, turn), {name: number}, True)
                self.holds_with(self.late(name, number, turn), promised(**{name: number}), True)
                self.holds_with(self.late(name, number, turn), {name: number, "zed": -1}, True)

    def test_one_told_by_settling_holds_with_its_promises(self):
        for name, turn in LATEST.items():
            promises = promised(**{name: turn - 1})
            verdict = settled(QUEUE, HOURS, 0, promises)
            self.holds_with(verdict, promises, True)
            self.holds_with(verdict, LATEST, False)
            self.holds_with(verdict, {}, False)
            self.holds_with(verdict, promised(**{name: turn - 2}), False)

    def test_promises_of_those_behind_make_no_difference(self):
        self.holds_with(self.late("bo", -1, 0), {"bo": -1, "cy": -FAR, "dee": -1}, True)
        self.holds_with(self.late(), {"cy": 4, "dee": 3}, True)

    def test_a_promise_ahead_that_does_not_hold(self):
        for name in ("ann", "bo"):
            self.holds_with(self.late(), promised(cy=4, **{name: LATEST[name] - 1}), False)
            self.holds_with(self.late(), promised(cy=4, **{name: LATEST[name]}), True)
            self.holds_with(self.late(), {"cy": 4, name: -FAR}, False)

    def test_the_promised_number_is_the_promise(self):
        for number in (3, 5, 6, -4, FAR):
            self.holds_with(self.late(), {"cy": number}, False)
            self.holds_with(self.late(number=number), {"cy": 4}, False)
        self.holds_with(self.late(), {}, False)
        self.holds_with(self.late(), {"dee": 4, "zed": 4}, False)

    def test_less_than_the_turn(self):
        for number in (5, 6, FAR):
            self.holds_with(self.late(number=number), {"cy": number}, False)
        self.holds_with(self.late("bo", 0, 0), {"bo": 0}, False)
        self.holds_with(self.late("bo", -1, 0), {"bo": -1}, True)

    def test_the_turn_is_that_of_the_last_row(self):
        for turn in (-1, 0, 3, 4, 6, 7, FAR):
            for number in (-2, 4):
                self.holds_with(self.late(turn=turn, number=number), {"cy": number}, False)
        for turn in (0, 2, 4, 5):
            self.holds_with(self.late("ann", -1, turn), {"ann": -1}, False)

    def test_a_ticket_of_that_name(self):
        for name in ("zed", "", "c", "cyy", "Cy"):
            self.holds_with(self.late(name), {name: 4}, False)
            self.holds_with(self.late(name), {name: 4, "cy": 4}, False)
        run = RUN + [(6, ["zed"])]
        self.holds_with(self.late("zed", 4, 6, run), {"zed": 4}, False)
        self.holds_with(self.late("zed", 4, 5, []), {"zed": 4}, False)
        self.holds_with(self.late("zed", 4, 5, [], []), {"zed": 4}, False)

    def test_the_rows_are_the_whole_run(self):
        for many in range(len(RUN)):
            self.holds_with(self.late(run=RUN[:many]), {"cy": 4}, False)
            self.holds_with(self.late("ann", 2, 3, RUN[:many]), {"ann": 2}, False)
            self.holds_with(self.late(run=RUN[:many] + RUN[many + 1:]), {"cy": 4}, False)
            self.holds_with(self.late(run=RUN[:many] + [RUN[many]] + RUN[many:]), {"cy": 4}, False)
        for run in (RUN[::-1], RUN + [(6, [])], RUN + [(6, ["cy"])], [(-1, [])] + RUN, RUN[1:],
                    [(0, ["bo", "ann"])] + RUN[1:], [(0, ["ann", "bo", "bo"])] + RUN[1:], [(0, ["ann"])] + RUN[1:],
                    RUN[:5] + [(6, ["cy"])], RUN[:5] + [(5, ["dee"])], [(turn + 1, names) for turn, names in RUN]):
            self.holds_with(self.late(run=run), {"cy": 4}, False)

    def test_begin_queue_and_hours_count(self):
        self.holds_with(self.late(begin=1), {"cy": 4}, False)
        self.holds_with(self.late(hours=HOURS.more(0, 0)), {"cy": 4}, False)
        self.holds_with(self.late(queue=QUEUE[:3]), {"cy": 4}, False)
        self.holds_with(self.late(queue=QUEUE[:1] + [("bo", 2)] + QUEUE[2:]), {"cy": 4}, False)
        run = run_of(QUEUE, HOURS, 10 ** 5)
        self.holds_with(self.late("cy", 10 ** 5, 10 ** 5 + 1, run, begin=10 ** 5), {"cy": 10 ** 5}, True)

    def test_made_halls(self):
        for queue, hours, begin in made_halls():
            latest = latest_all(queue, hours, begin)
            run = run_of(queue, hours, begin)
            for name, left in queue[:2] + queue[-1:]:
                turn = latest[name]
                for number in (turn - 1, turn):
                    verdict = Late(queue, hours, begin, name, number, turn, run)
                    self.holds_with(verdict, {name: number}, number < turn)
                    self.holds_with(verdict, {**latest, name: number}, number < turn)
                    if name != queue[0][0]:
                        self.holds_with(verdict, {name: number, queue[0][0]: begin - 1}, False)


class NothingIsShared(HallCase):
    def test_settling(self):
        for promises in PROMISES:
            for queue in (QUEUE, [], long_queue(60, 2)):
                self.shares_nothing(settled, lambda: (list(queue), HOURS, 0, dict(promises)))

    def test_made_by_hand(self):
        self.shares_nothing(Verdict, lambda: (list(QUEUE), HOURS, 0))
        self.shares_nothing(Granted, lambda: (list(QUEUE), HOURS, 0))
        self.shares_nothing(NoRoom, lambda: (list(QUEUE), HOURS, 0, 1))
        self.shares_nothing(Late, lambda: (list(QUEUE), HOURS, 0, "cy", 4, 5, own(RUN)))

    def test_what_is_changed_later_changes_nothing(self):
        queue, run = list(QUEUE), own(RUN)
        late, granted = Late(queue, HOURS, 0, "cy", 4, 5, run), Granted(queue, HOURS, 0)
        run[0][1].append("zed")
        queue.reverse()
        self.is_late(late, "cy", 4, 5)
        self.is_granted(granted)
        spoil((queue, run))
        self.is_late(late, "cy", 4, 5)
        self.holds_with(late, {"cy": 4}, True)
        self.holds_with(granted, LATEST, True)

    def test_what_is_told_is_new_each_time(self):
        for late in (Late(QUEUE, HOURS, 0, "cy", 4, 5, RUN), settled(QUEUE, HOURS, 0, {"cy": 4})):
            told = late.told()
            again = late.told()
            told[4][0][1].append("zed")
            self.is_late(late, "cy", 4, 5)
            spoil(told)
            self.is_late(late, "cy", 4, 5)
            self.assertEqual(again, ("late", "cy", 4, 5, RUN))
            self.holds_with(late, {"cy": 4}, True)

    def test_asking_changes_nothing(self):
        made = [Verdict(QUEUE, HOURS, 0), Granted(QUEUE, HOURS, 0), NoRoom(QUEUE, HOURS, 0, 1),
                Late(QUEUE, HOURS, 0, "cy", 4, 5, RUN), settled(QUEUE, HOURS, 0, {"cy": 4})]
        for verdict in made:
            before = frozen(verdict)
            for promises in PROMISES:
                handed = dict(promises)
                verdict.holds(handed)
                self.assertEqual(handed, promises)
                self.assertEqual(list(handed), list(promises))
            verdict.told()
            self.assertEqual(frozen(verdict), before)

    def test_made_alike_they_share_nothing(self):
        for kind, handed in ((Verdict, ()), (Granted, ()), (NoRoom, (1,)), (Late, ("cy", 4, 5, RUN))):
            one, two = kind(QUEUE, HOURS, 0, *handed), kind(QUEUE, HOURS, 0, *handed)
            self.assertEqual(frozen(one), frozen(two))
            self.assertIsNot(one.queue, two.queue)
            self.assertIsNot(one.queue, QUEUE)


if __name__ == "__main__":
    unittest.main()
