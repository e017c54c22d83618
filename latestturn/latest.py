"""Latest turns, and the runs that show them."""

from latestturn.hours import is_name
from latestturn.queues import names_of, place_of
from latestturn.runs import ends_of, run_of, walk_run


def latest_all(queue, hours, begin):
    return ends_of(run_of(queue, hours, begin))


def latest_of(queue, hours, begin, name):
    # The place is asked for its refusal: a name without a ticket has no latest turn.
    place_of(queue, name)
    return latest_all(queue, hours, begin)[name]


def witness_run(queue, hours, begin, name):
    latest = latest_of(queue, hours, begin, name)
    return [row for row in run_of(queue, hours, begin) if row[0] <= latest]


def shows_latest(queue, hours, begin, name, turn, rows):
    behind = walk_run(queue, hours, begin, rows)
    if behind is None or not rows or rows[-1][0] != turn:
        return False
    # Things that are no names are not compared: some claim to be like every text.
    return is_name(name) and name in rows[-1][1] and name not in names_of(behind)


def all_done(queue, hours, begin):
    return begin + len(run_of(queue, hours, begin)) - 1
