"""A desk: lines are said to it, one at a time, and it answers each with a text, by the hall that it has."""

from latestturn.bookings import first_booking
from latestturn.errors import NoLine
from latestturn.hall import Hall
from latestturn.hours import Hours
from latestturn.latest import shows_latest
from latestturn.lifts import foremost
from latestturn.lines import number_in, parted, queue_text, rows_in, rows_text
from latestturn.runs import walk_run
from latestturn.verdicts import Late
from latestturn.why import tolls_of, waits_of

OK = "ok"


def words_text(things):
    return " ".join([str(thing) for thing in things])


def list_text(tuples):
    return parted([words_text(things) for things in tuples], ", ")


def short_verdict_text(verdict):
    # What a late one tells behind these is its run.
    return words_text(verdict.told()[:4])


def verdict_text(verdict):
    if isinstance(verdict, Late):
        return short_verdict_text(verdict) + "; " + rows_text(verdict.run)
    return short_verdict_text(verdict)


def found_text(found):
    return "; ".join([str(found[0])] + [short_verdict_text(verdict) for verdict in found[1]])


def numbers_text(queue, numbers):
    return queue_text([(name, numbers[name]) for name, left in queue])


def answer_come(hall, parts):
    return str(hall.come(parts[0], parts[1]))


def answer_tell(hall, parts):
    return str(hall.tell(parts[0]))


def answer_ends(hall, parts):
    hall.ends(parts[0])
    return OK


def answer_leave(hall, parts):
    hall.leave(parts[0])
    return OK


def answer_miss(hall, parts):
    hall.miss(parts[0])
    return OK


def answer_reopen(hall, parts):
    hall.reopen(parts[0], parts[1])
    return OK


def answer_pass(hall, parts):
    return rows_text(hall.pass_turns(parts[0]))


def answer_book(hall, parts):
    return verdict_text(hall.book(parts[0], parts[1], parts[2]))


def answer_close(hall, parts):
    return verdict_text(hall.close(parts[0], parts[1]))


def answer_lift(hall, parts):
    return verdict_text(hall.lift(parts[0], parts[1]))


def answer_first(hall, parts):
    queue = hall.queue_now()
    return found_text(first_booking(queue, hall.hours_now(), hall.now_turn(), hall.told_now(), parts[0], parts[1]))


def answer_foremost(hall, parts):
    return found_text(foremost(hall.queue_now(), hall.hours_now(), hall.now_turn(), hall.told_now(), parts[0]))


def answer_now(hall, parts):
    return str(hall.now_turn())


def answer_queue(hall, parts):
    return queue_text(hall.queue_now())


def answer_log(hall, parts):
    return rows_text(hall.log_told())


def answer_latest(hall, parts):
    return numbers_text(hall.queue_now(), hall.latest_now())


def answer_told(hall, parts):
    return numbers_text(hall.queue_now(), hall.told_now())


def answer_names(hall, parts):
    return parted(hall.all_names(), " ")


def answer_bookings(hall, parts):
    return list_text(hall.bookings_now())


def answer_breaks(hall, parts):
    return list_text(hall.breaks_now())


def answer_state(hall, parts):
    state = hall.state_of(parts[0])
    return "".join([words_text(state[:5]), ":"] + [f" {number}" for number in state[5]])


def answer_counters(hall, parts):
    return str(hall.hours_now().at(parts[0]))


def answer_witness(hall, parts):
    return rows_text(hall.witness_of(parts[0]))


def answer_why(hall, parts):
    return rows_text(waits_of(hall.queue_now(), hall.hours_now(), hall.now_turn(), parts[0]))


def answer_tolls(hall, parts):
    return list_text(tolls_of(hall.queue_now(), hall.hours_now(), hall.now_turn(), parts[0]))


def answer_walk(hall, parts):
    left = walk_run(hall.queue_now(), hall.hours_now(), hall.now_turn(), parts[0])
    return "no" if left is None else queue_text(left)


def answer_shows(hall, parts):
    queue = hall.queue_now()
    shown = shows_latest(queue, hall.hours_now(), hall.now_turn(), parts[0], parts[1], parts[2])
    return "yes" if shown else "no"


# What stands behind the first word of a line: a name is any word, rows are all that follows,
# and everything else is figures.
FORMS = {
    "come": "NAME MOST",
    "tell": "NAME",
    "ends": "NAME",
    "leave": "NAME",
    "miss": "NAME",
    "reopen": "FIRST LAST",
    "pass": "MANY",
    "book": "NAME FIRST LAST",
    "close": "FIRST LAST",
    "lift": "NAME NAME",
    "first": "START MANY",
    "foremost": "NAME",
    "now": "",
    "queue": "",
    "log": "",
    "latest": "",
    "told": "",
    "names": "",
    "bookings": "",
    "breaks": "",
    "state": "NAME",
    "counters": "TURN",
    "witness": "NAME",
    "why": "NAME",
    "tolls": "NAME",
    "walk": "ROWS",
    "shows": "NAME TURN ROWS",
}

ANSWERS = {
    "come": answer_come,
    "tell": answer_tell,
    "ends": answer_ends,
    "leave": answer_leave,
    "miss": answer_miss,
    "reopen": answer_reopen,
    "pass": answer_pass,
    "book": answer_book,
    "close": answer_close,
    "lift": answer_lift,
    "first": answer_first,
    "foremost": answer_foremost,
    "now": answer_now,
    "queue": answer_queue,
    "log": answer_log,
    "latest": answer_latest,
    "told": answer_told,
    "names": answer_names,
    "bookings": answer_bookings,
    "breaks": answer_breaks,
    "state": answer_state,
    "counters": answer_counters,
    "witness": answer_witness,
    "why": answer_why,
    "tolls": answer_tolls,
    "walk": answer_walk,
    "shows": answer_shows,
}


def part_in(kind, word):
    if kind == "NAME":
        return word
    return rows_in(word) if kind == "ROWS" else number_in(word)


def parts_in(line, form):
    kinds = form.split()
    # Rows have blanks of their own, so they are not parted.
    words = line.split(" ", len(kinds)) if form.endswith("ROWS") else line.split(" ")
    if len(words) != len(kinds) + 1:
        raise NoLine("this line has another number of words")
    return [part_in(kind, word) for kind, word in zip(kinds, words[1:])]


def hours_in(words):
    numbers = [number_in(word) for word in words]
    if len(numbers) % 2 == 0:
        raise NoLine("hours are told by their rest and by pairs of turns and counters")
    return Hours(list(zip(numbers[1::2], numbers[2::2])), numbers[0])


class Desk:
    def __init__(self):
        self.hall = None

    def say(self, line):
        words = line.split(" ")
        if words[0] == "hours":
            self.hall = Hall(hours_in(words[1:]))
            return OK
        if self.hall is None:
            raise NoLine("without a hall there are only lines of hours")
        if words[0] not in FORMS:
            raise NoLine("no line begins with this word")
        return ANSWERS[words[0]](self.hall, parts_in(line, FORMS[words[0]]))
