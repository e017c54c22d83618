"""The desk: points [104] and [105], and of it what points 2 to 6 say."""

import unittest

from latestturn.bookings import first_booking
from latestturn.desk import Desk
from latestturn.hall import Hall
from latestturn.hours import Hours
from latestturn.latest import shows_latest
from latestturn.lifts import foremost
from latestturn.lines import queue_text, rows_in, rows_text
from latestturn.runs import walk_run
from latestturn.why import tolls_of, waits_of
from tests.helper import NO_NAMES, RefusalCase, Rule

TELLING = ("now", "queue", "log", "latest", "told", "names", "bookings", "breaks")

# A line of each form, right for the desk that made_desk tells; {} stands where figures stand, <> where a name does.
FORMS = {
    "come": "come <> {}", "tell": "tell <>", "ends": "ends <>", "leave": "leave <>", "miss": "miss <>",
    "reopen": "reopen {} {}", "pass": "pass {}", "book": "book <> {} {}", "close": "close {} {}", "lift": "lift <> <>",
    "first": "first {} {}", "foremost": "foremost <>", "now": "now", "queue": "queue", "log": "log", "latest": "latest",
    "told": "told", "names": "names", "bookings": "bookings", "breaks": "breaks", "state": "state <>",
    "counters": "counters {}", "witness": "witness <>", "why": "why <>", "tolls": "tolls <>", "walk": "walk -",
    "shows": "shows <> {} -",
}
RIGHT = {
    "come": "come dee 2", "tell": "tell cy", "ends": "ends ann", "leave": "leave cy", "miss": "miss fay",
    "reopen": "reopen 30 31", "pass": "pass 2", "book": "book gus 40 41", "close": "close 40 41", "lift": "lift ann cy",
    "first": "first 5 2", "foremost": "foremost cy", "now": "now", "queue": "queue", "log": "log", "latest": "latest",
    "told": "told", "names": "names", "bookings": "bookings", "breaks": "breaks", "state": "state ann",
    "counters": "counters 9", "witness": "witness cy", "why": "why cy", "tolls": "tolls cy", "walk": "walk 1: ann bo",
    "shows": "shows bo 1 1: ann bo",
}
WITH_ROWS = ("walk", "shows")

# No figures, and without a blank, so that they are one word.
NO_FIGURES = ["", "x", "-1", "+1", "01", "00", "1000000", "1.", "1.0", "1e1", "1_0", "\t1", "1\n", "\u0661", "\u00b2",
              "-", "None"]


def made_desk():
    """At turn 1; ann and bo had a turn, cy waits; fay has booked, and a break stands."""
    desk = Desk()
    for line in ("hours 1 2 2 1 0", "come ann 3", "come bo 2", "come cy 1", "book fay 20 21", "close 30 31", "pass 1"):
        desk.say(line)
    return desk


def desk_told(desk):
    answers = [desk.say(line) for line in TELLING]
    answers += [desk.say(f"state {name}") for name in desk.say("names").split(" ") if name != "-"]
    return answers + [desk.say(f"counters {int(answers[0]) + turn}") for turn in range(50)]


class DeskCase(RefusalCase):
    def says(self, desk, *told):
        """Each line, and what the desk is to answer."""
        for line, answer in told:
            told = desk.say(line)
            self.assertEqual(told, answer, line)
            self.assertIs(type(told), str, line)

    def refuses_line(self, error_name, desk, line, **fields):
        before = desk_told(desk)
        self.refuses(error_name, desk.say, line, **fields)
        self.assertEqual(desk_told(desk), before, line)


class Answers(DeskCase):
    def test_104_a_day(self):
        self.says(
            Desk(), ("hours 1 2 2 1 0", "ok"), ("now", "0"), ("queue", "-"), ("log", "-"), ("latest", "-"),
            ("told", "-"), ("names", "-"), ("bookings", "-"), ("breaks", "-"), ("come ann 3", "3"), ("come bo 2", "1"),
            ("come cy 1", "4"), ("queue", "ann 3, bo 2, cy 1"), ("latest", "ann 3, bo 1, cy 4"),
            ("told", "ann 3, bo 1, cy 4"), ("names", "ann bo cy"), ("pass 0", "-"), ("pass 1", "0: ann bo"),
            ("now", "1"), ("witness cy", "1: ann bo; 2:; 3: ann; 4: cy"), ("why cy", "1: ann bo; 2:; 3: ann"),
            ("tolls cy", "ann 2 3, bo 1 1"), ("ends ann", "ok"), ("state ann", "served 3 0 1 0: 3"),
            ("latest", "bo 1, cy 1"), ("told", "bo 1, cy 4"), ("tell cy", "1"), ("state cy", "waiting 1 0 0 1: 4 1"),
            ("why cy", "-"), ("tolls cy", "-"), ("leave cy", "ok"), ("state cy", "gone 1 0 0 1: 4 1"),
            ("pass 3", "1: bo; 2:; 3:"), ("log", "0: ann bo; 1: bo; 2:; 3:"), ("queue", "-"), ("names", "ann bo cy"),
            ("now", "4"), ("come dee 20", "23"), ("state dee", "waiting 20 4 0 20: 23"),
        )

    def test_104_hours(self):
        for line, counters in (("hours 3", "3333"), ("hours 1 2 0", "0011"), ("hours 2 1 8 1 0 1 4", "8042"),
                               ("hours 8 1 1 1 1 1 1 100 0", "1110"), ("hours 1" + " 1 0" * 16, "0000")):
            desk = Desk()
            self.says(desk, (line, "ok"), ("now", "0"))
            self.says(desk, *[(f"counters {turn}", answer) for turn, answer in enumerate(counters)])
            self.says(desk, ("counters 999999", line[6]))

    def test_104_a_new_hall_takes_the_place_of_the_one_that_was_there(self):
        desk = made_desk()
        self.says(desk, ("hours 2", "ok"), ("now", "0"), ("queue", "-"), ("names", "-"), ("log", "-"),
                  ("bookings", "-"), ("breaks", "-"), ("come fay 1", "0"), ("come ann 1", "0"), ("counters 2", "2"),
                  ("counters 20", "2"))

    def test_104_coming_and_telling(self):
        desk = Desk()
        self.says(desk, ("hours 1", "ok"), ("come ann 20", "19"), ("come b1234567 1", "20"), ("leave ann", "ok"),
                  ("tell b1234567", "0"), ("told", "b1234567 0"))

    def test_104_bookings_and_breaks(self):
        desk = made_desk()
        self.says(
            desk, ("bookings", "fay 20 21"), ("breaks", "30 31"), ("book gus 20 22", "no counter 20"),
            ("book gus 2 2", "no counter 2"), ("close 2 9", "no counter 2"),
            ("book gus 1 1", "late bo 1 4; 1: ann; 2:; 3: ann; 4: bo; 5: cy"),
            ("close 3 3", "late ann 3 4; 1: ann bo; 2:; 3:; 4: ann; 5: cy"), ("book gus 5 6", "granted"),
            ("close 7 7", "granted"), ("bookings", "fay 20 21, gus 5 6"), ("breaks", "30 31, 7 7"), ("counters 7", "0"),
            ("miss fay", "ok"), ("reopen 30 31", "ok"), ("bookings", "gus 5 6"), ("breaks", "7 7"),
            ("counters 20", "1"), ("pass 6", "1: ann bo; 2:; 3: ann; 4: cy; 5:; 6:"), ("bookings", "-"),
            ("breaks", "7 7"), ("pass 1", "7:"), ("breaks", "-"),
        )

    def test_104_lifts(self):
        desk = Desk()
        self.says(
            desk, ("hours 1", "ok"), ("come x 2", "1"), ("come ann 1", "2"), ("come bo 1", "3"), ("come cy 1", "4"),
            ("lift cy x", "late x 1 2; 0: cy; 1: x; 2: x; 3: ann; 4: bo"), ("lift ann ann", "granted"),
            ("lift ann cy", "granted"), ("queue", "x 2, ann 1, bo 1, cy 1"), ("leave x", "ok"),
            ("lift cy ann", "granted"), ("queue", "cy 1, ann 1, bo 1"), ("told", "cy 4, ann 2, bo 3"),
            ("latest", "cy 0, ann 1, bo 2"),
        )

    def test_104_first(self):
        desk = made_desk()
        self.says(
            desk, ("first 1 1", "5; late bo 1 4; no counter 2; late ann 3 4; late cy 4 5"),
            ("first 2 2", "5; no counter 2; late ann 3 5; late cy 4 6"), ("first 5 15", "5"),
            ("first 5 50", "32; " + "; ".join(
                ["no counter 20"] * 16 + ["no counter 21"] + ["no counter 30"] * 9 + ["no counter 31"])),
            ("first 22 8", "22"),
        )
        self.says(Desk(), ("hours 2", "ok"), ("first 0 50", "0"), ("first 100000 1", "100000"),
                  ("first 99999 50", "99999"))

    def test_104_foremost(self):
        desk = made_desk()
        self.says(desk, ("foremost ann", "0"), ("foremost bo", "0"), ("foremost cy", "2; late bo 1 4; late bo 1 4"))
        self.says(desk, ("queue", "ann 2, bo 1, cy 1"), ("leave bo", "ok"), ("foremost cy", "0"),
                  ("queue", "ann 2, cy 1"))

    def test_104_states(self):
        desk = made_desk()
        self.says(desk, ("state ann", "waiting 3 0 1 2: 3"), ("tell ann", "3"), ("tell ann", "3"),
                  ("state ann", "waiting 3 0 1 2: 3 3 3"), ("come dee 20", "26"),
                  ("state dee", "waiting 20 1 0 20: 26"), ("leave ann", "ok"), ("state ann", "gone 3 0 1 2: 3 3 3"),
                  ("ends bo", "ok"), ("state bo", "served 2 0 1 0: 1"), ("pass 3", "1: cy dee; 2:; 3: dee"),
                  ("state cy", "served 1 0 1 0: 4"))

    def test_104_counters(self):
        desk = made_desk()
        self.says(desk, *[(f"counters {turn}", counters) for turn, counters in (
            (1, "2"), (2, "0"), (3, "1"), (19, "1"), (20, "0"), (21, "0"), (22, "1"), (30, "0"), (31, "0"), (32, "1"),
            (999999, "1"))])

    def test_104_walks(self):
        desk = made_desk()
        self.says(
            desk, ("walk -", "ann 2, bo 1, cy 1"), ("walk 1: ann bo", "ann 1, cy 1"),
            ("walk 1: ann bo; 2:", "ann 1, cy 1"), ("walk 1: ann bo; 2:; 3: ann", "cy 1"),
            ("walk 1: ann bo; 2:; 3: ann; 4: cy", "-"), ("walk 1: ann bo; 2:; 3: ann; 4: cy; 5:", "no"),
            ("walk 1: bo ann", "no"), ("walk 0: ann bo", "no"), ("walk 1: ann", "no"), ("walk 1: ann bo cy", "no"),
            ("walk 2:", "no"), ("walk 1: ann bo; 3: ann", "no"), ("walk 1: ann zed", "no"),
            ("walk 1: ann bo; 1: ann bo", "no"),
        )
        self.says(Desk(), ("hours 1", "ok"), ("walk -", "-"), ("walk 0:", "no"))

    def test_104_shows(self):
        desk = made_desk()
        self.says(
            desk, ("shows bo 1 1: ann bo", "yes"), ("shows ann 3 1: ann bo; 2:; 3: ann", "yes"),
            ("shows cy 4 1: ann bo; 2:; 3: ann; 4: cy", "yes"), ("shows cy 5 1: ann bo; 2:; 3: ann; 4: cy", "no"),
            ("shows ann 1 1: ann bo", "no"), ("shows bo 0 1: ann bo", "no"), ("shows bo 1 1: bo ann", "no"),
            ("shows bo 1 1: ann bo; 2:", "no"), ("shows bo 1 -", "no"), ("shows cy 3 1: ann bo; 2:; 3: ann", "no"),
            ("shows zed 1 1: ann bo", "no"), ("shows fay 20 -", "no"), ("shows  1 1: ann bo", "no"),
            ("shows Bo 1 1: ann bo", "no"), ("shows bo 999999 1: ann bo", "no"),
        )

    def test_104_every_form_is_answered(self):
        for first, line in RIGHT.items():
            desk = made_desk()
            self.assertIs(type(desk.say(line)), str, line)
            self.assertEqual(line.split(" ")[0], first)

    def test_104_lines_that_tell_change_nothing(self):
        desk = made_desk()
        before = desk_told(desk)
        for first in TELLING + ("state", "counters", "witness", "why", "tolls", "walk", "shows", "first", "foremost"):
            answer = desk.say(RIGHT[first])
            self.assertEqual(desk_told(desk), before, first)
            self.assertEqual(desk.say(RIGHT[first]), answer)

    def test_2_desks_that_are_used_alike_tell_alike_and_share_nothing(self):
        third = Desk()
        for first, line in RIGHT.items():
            one, two = made_desk(), made_desk()
            before = desk_told(two)
            answer = one.say(line)
            self.assertEqual(desk_told(two), before)
            self.says(two, (line, answer))
            self.assertEqual(desk_told(one), desk_told(two))
            self.refuses("NoLine", third.say, "now")


class RefusalsOfTheHall(DeskCase):
    def test_104_what_the_hall_refuses_comes_through(self):
        desk = made_desk()
        for word in [thing for thing in NO_NAMES if isinstance(thing, str) and " " not in thing]:
            self.refuses_line("NoName", desk, f"come {word} 1")
            self.refuses_line("NoName", desk, f"book {word} 40 41")
            for first in ("tell", "ends", "leave", "foremost", "state", "witness", "why", "tolls"):
                self.refuses_line("NoTicket", desk, f"{first} {word}", name=word)
            self.refuses_line("NoTicket", desk, f"lift {word} ann", name=word)
            self.refuses_line("NoTicket", desk, f"lift ann {word}", name=word)
            self.refuses_line("NoBooking", desk, f"miss {word}", name=word)

    def test_104_names_that_nobody_has(self):
        desk = made_desk()
        for name in ("zed", "fay"):
            for first in ("tell", "ends", "leave", "foremost", "state", "witness", "why", "tolls"):
                self.refuses_line("NoTicket", desk, f"{first} {name}", name=name)
            self.refuses_line("NoTicket", desk, f"lift {name} gus", name=name)
            self.refuses_line("NoTicket", desk, f"lift ann {name}", name=name)
        self.refuses_line("NoBooking", desk, "miss ann", name="ann")
        self.refuses_line("NoBreak", desk, "reopen 30 32", first=30, last=32)
        self.refuses_line("NoBreak", desk, "reopen 20 21", first=20, last=21)

    def test_104_other_refusals(self):
        desk = made_desk()
        for name in ("ann", "fay"):
            self.refuses_line("Taken", desk, f"come {name} 1", name=name)
            self.refuses_line("Taken", desk, f"come {name} 0", name=name)
            self.refuses_line("Taken", desk, f"book {name} 0 0", name=name)
        for line in ("come dee 0", "come dee 21", "come dee 999999", "pass 101", "pass 999999", "book gus 0 5",
                     "book gus 6 5", "book gus 5 55", "book gus 100001 100001", "close 0 0", "close 2 1", "close 5 55",
                     "close 5 100001", "first 0 1", "first 100001 1", "first 1 0", "first 1 51"):
            self.refuses_line("NoNumber", desk, line)
        self.refuses_line("NotBegun", desk, "ends cy", name="cy")

    def test_104_too_many(self):
        desk = Desk()
        desk.say("hours 8")
        for number in range(60):
            desk.say(f"come t{number} 1")
        self.refuses_line("TooMany", desk, "come ann 1")
        self.refuses_line("NoNumber", desk, "come ann 0")

    def test_104_hours_that_are_refused_leave_the_hall(self):
        desk = made_desk()
        for line in ("hours 0", "hours 9", "hours 999999", "hours 1 0 1", "hours 1 101 1", "hours 1 1 9", "hours 0 1 1",
                     "hours 1 5 5 0 5", "hours 1" + " 1 1" * 17):
            self.refuses_line("NoHours", desk, line)
        for line in ("hours", "hours ", "hours 1 1", "hours 1 1 1 1", "hours x", "hours 1 x 1", "hours 1 1 x",
                     "hours  1", "hours 1 ", "hours 1  1 1", "hours 01", "hours 1 1 01", "hours 1\t", "hours\t1",
                     "hours 0 1", "hours 9 x", "hours 1000000", "hours -1", "hours 1 101", "hours 1 1 9 1",
                     "hours 1 1 1 ", "hours 1" + " 1 1" * 17 + " 1"):
            self.refuses_line("NoLine", desk, line)
        self.says(desk, ("queue", "ann 2, bo 1, cy 1"), ("now", "1"))

    def test_104_hours_that_are_refused_make_no_hall(self):
        desk = Desk()
        for error_name, line in (("NoHours", "hours 0"), ("NoHours", "hours 1 0 0"), ("NoLine", "hours 1 1"),
                                 ("NoLine", "hours")):
            self.refuses(error_name, desk.say, line)
            self.refuses("NoLine", desk.say, "now")
        self.says(desk, ("hours 1", "ok"), ("now", "0"))


class NoLines(DeskCase):
    def test_105_without_a_hall(self):
        desk = Desk()
        for line in list(RIGHT.values()) + list(FORMS.values()) + ["tell", "come Ann x", "zed", "", " "]:
            self.refuses("NoLine", desk.say, line)
        self.says(desk, ("hours 1", "ok"), ("queue", "-"))

    def test_105_another_first_word(self):
        desk = made_desk()
        for line in ("", " ", "  ", "zed", "zed ann", "hall", "Hours 1", "hour 1", "hourss 1", "-", "0", "\n", "\t",
                     "say now", "granted", "late", "ok", "NAME", "come_", "pass_turns 1", "now_turn", "__init__",
                     "none"):
            self.refuses_line("NoLine", desk, line)
        for first, line in RIGHT.items():
            rest = line[len(first):]
            for other in (first.upper(), first.title(), first[:-1], first[1:], first + "s", first + "x", "x" + first,
                          "\t" + first, "\n" + first, first + "\t", first + "\n", first + ":"):
                if other not in RIGHT:
                    self.refuses_line("NoLine", desk, other + rest)
            self.refuses_line("NoLine", desk, " " + line)

    def test_105_words_more(self):
        desk = made_desk()
        for first, line in RIGHT.items():
            if first in WITH_ROWS:
                continue
            words = line.split(" ")
            for place in range(1, len(words) + 1):
                for word in ("", "ann", "zed", "1", "0", "-", "\n"):
                    self.refuses_line("NoLine", desk, " ".join(words[:place] + [word] + words[place:]))

    def test_105_words_fewer(self):
        desk = made_desk()
        for first, line in RIGHT.items():
            words = line.split(" ")
            for place in range(1, len(words)):
                if first in WITH_ROWS and place >= words.index("1:"):
                    continue
                self.refuses_line("NoLine", desk, " ".join(words[:place] + words[place + 1:]))
            if len(words) > 1:
                self.refuses_line("NoLine", desk, first)
        for line in ("shows bo", "shows bo 1", "shows bo 1: ann bo", "shows 1 1: ann bo", "shows -", "walk"):
            self.refuses_line("NoLine", desk, line)

    def test_105_other_parts_between_words(self):
        desk = made_desk()
        for first, line in RIGHT.items():
            if " " in line:
                for part in ("  ", "\t", "\n", "", ","):
                    self.refuses_line("NoLine", desk, line.replace(" ", part))
            for end in (" ", "\n", "\t"):
                if not line.endswith(("ann", "cy", "fay")) or end == " ":
                    self.refuses_line("NoLine", desk, line + end)

    def test_105_no_figures(self):
        desk = made_desk()
        for form in FORMS.values():
            parts = form.replace("<>", "zed").split("{}")
            for place in range(1, len(parts)):
                for word in NO_FIGURES:
                    line = parts[0]
                    for number, part in enumerate(parts[1:], 1):
                        line += (word if number == place else "5") + part
                    self.refuses_line("NoLine", desk, line)

    def test_105_no_rows(self):
        desk = made_desk()
        for rows in ("", " ", "-;", "- ", " -", "--", "1", "1:ann", "1: ann  bo", "1: ann bo ", " 1: ann bo",
                     "1: ann bo;", "1: ann bo; ", "1: ann bo;2:", "1: ann bo; 2", "1: ann bo;  2:", "1: ann, bo",
                     "01: ann bo", "1: Ann bo", "1: ann\tbo", "1: ann bo\n", "1: ann bo;\n2:", "ann bo", "1 : ann bo",
                     "1000000:"):
            self.refuses_line("NoLine", desk, f"walk {rows}")
            for name, turn in (("bo", 1), ("zed", 1), ("", 0)):
                self.refuses_line("NoLine", desk, f"shows {name} {turn} {rows}")

    def test_105_ahead_of_all_that_the_hall_or_a_stage_refuses(self):
        desk = made_desk()
        for line in ("come Ann x", "come ann", "come ann x", "come  ", "come", "come ann 01", "tell", "tell zed ann",
                     "ends zed 1", "ends cy cy", "leave zed zed", "miss zed 1", "miss", "reopen 9 x", "reopen 9",
                     "pass 0101", "pass 1000000", "pass -1", "book Ann 0", "book ann 0 x", "book ann x 0", "close 0 x",
                     "close 0", "lift zed", "lift zed zed zed", "first 0", "first 0 x", "first 0 051", "foremost",
                     "foremost zed zed", "state", "state zed zed", "witness zed 1", "why zed 1", "tolls zed 1",
                     "shows zed x -", "hours 0 0", "hours 0 x", "hours 9 9"):
            self.refuses_line("NoLine", desk, line)


class BesideAHall(DeskCase):
    """What the desk answers is what a hall that is used alike tells."""

    def verdict_text(self, verdict):
        told = verdict.told()
        if told[0] == "late":
            return f"late {told[1]} {told[2]} {told[3]}; {rows_text(told[4])}"
        return f"no counter {told[1]}" if told[0] == "no counter" else "granted"

    def found_text(self, found):
        return "; ".join([str(found[0])] + [self.verdict_text(verdict).split(";")[0] for verdict in found[1]])

    def deed(self, rule, hall):
        """A line, and the call of the hall and the text that it is to be answered with."""
        now, names = hall.now_turn(), hall.all_names() + ["zed"]
        name, other = rule.one_of(names), rule.one_of(names)
        booked = rule.one_of([booking[0] for booking in hall.bookings_now()] + ["zed"])
        first, new = now + rule.below(8), f"n{rule.below(300)}"
        last, many, most = first + rule.below(4), rule.below(4), 1 + rule.below(5)
        broken = rule.one_of(hall.breaks_now() + [(first, last)])
        return rule.one_of([
            (f"come {new} {most}", lambda: str(hall.come(new, most))),
            (f"come {new} {most}", lambda: str(hall.come(new, most))),
            (f"tell {name}", lambda: str(hall.tell(name))),
            (f"ends {name}", lambda: hall.ends(name) or "ok"),
            (f"leave {name}", lambda: hall.leave(name) or "ok"),
            (f"pass {many}", lambda: rows_text(hall.pass_turns(many))),
            (f"book {new} {first} {last}", lambda: self.verdict_text(hall.book(new, first, last))),
            (f"close {first} {last}", lambda: self.verdict_text(hall.close(first, last))),
            (f"miss {booked}", lambda: hall.miss(booked) or "ok"),
            (f"reopen {broken[0]} {broken[1]}", lambda: hall.reopen(*broken) or "ok"),
            (f"lift {name} {other}", lambda: self.verdict_text(hall.lift(name, other))),
        ])

    def tells_alike(self, rule, desk, hall):
        kept = hall.queue_now(), hall.hours_now(), hall.now_turn()
        told = hall.told_now()
        self.says(
            desk, ("now", str(kept[2])), ("queue", queue_text(kept[0])), ("log", rows_text(hall.log_told())),
            ("latest", queue_text([(name, hall.latest_now()[name]) for name, left in kept[0]])),
            ("told", queue_text([(name, told[name]) for name, left in kept[0]])),
            ("names", " ".join(hall.all_names()) or "-"),
            ("bookings", ", ".join(f"{name} {first} {last}" for name, first, last in hall.bookings_now()) or "-"),
            ("breaks", ", ".join(f"{first} {last}" for first, last in hall.breaks_now()) or "-"),
            (f"first {kept[2] + 1} 2", self.found_text(first_booking(*kept, told, kept[2] + 1, 2))),
            (f"counters {kept[2] + 3}", str(kept[1].at(kept[2] + 3))),
        )
        for name in hall.all_names():
            word, most, came, had, left, numbers = hall.state_of(name)
            numbers = "".join(f" {number}" for number in numbers)
            self.says(desk, (f"state {name}", f"{word} {most} {came} {had} {left}:{numbers}"))
        for name, left in kept[0]:
            witness = hall.witness_of(name)
            tolls = ", ".join(f"{other} {turns} {last}" for other, turns, last in tolls_of(*kept, name))
            self.says(
                desk, (f"witness {name}", rows_text(witness)), (f"why {name}", rows_text(waits_of(*kept, name))),
                (f"tolls {name}", tolls or "-"), (f"foremost {name}", self.found_text(foremost(*kept, told, name))),
                (f"shows {name} {witness[-1][0]} {rows_text(witness)}", "yes"),
                (f"walk {rows_text(witness)}", queue_text(walk_run(*kept, witness))),
            )
            rows = rows_text(witness[:rule.below(len(witness) + 1)])
            shown = shows_latest(*kept, name, witness[-1][0], rows_in(rows))
            self.says(desk, (f"shows {name} {witness[-1][0]} {rows}", "yes" if shown else "no"))

    def test_104_drawn_lines(self):
        rule = Rule(104)
        seen = {}
        for rows, rest in (([], 1), ([], 3), ([(3, 2), (2, 0), (9, 1)], 2), ([(5, 0), (9, 4)], 1)):
            desk, hall = Desk(), Hall(Hours(rows, rest))
            desk.say(" ".join(["hours", str(rest)] + [f"{turns} {counters}" for turns, counters in rows]))
            for times in range(150):
                line, call = self.deed(rule, hall)
                try:
                    due = call()
                except ValueError as refused:
                    due = type(refused).__name__
                    self.refuses(due, desk.say, line, **vars(refused))
                else:
                    self.says(desk, (line, due))
                key = line.split(" ")[0], due.split(" ")[0] if due[0].isalpha() else "number"
                seen[key] = seen.get(key, 0) + 1
                if times % 5 == 0:
                    self.tells_alike(rule, desk, hall)
        for key in (("come", "number"), ("come", "Taken"), ("book", "granted"), ("book", "late"), ("close", "granted"),
                    ("close", "late"), ("lift", "granted"), ("lift", "late"), ("ends", "ok"), ("ends", "NotBegun"),
                    ("leave", "ok"), ("miss", "ok"), ("miss", "NoBooking"), ("reopen", "ok"), ("reopen", "NoBreak"),
                    ("tell", "number"), ("tell", "NoTicket")):
            self.assertIn(key, seen, seen)


if __name__ == "__main__":
    unittest.main()
