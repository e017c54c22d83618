"""Turns that are served, and runs: lists of rows (turn, names)."""

from latestturn.errors import NoNumber
from latestturn.hours import is_whole
from latestturn.queues import names_of


def turn_served(queue, many):
    served = queue[:many]
    begun = [(name, left - 1) for name, left in served if left > 1]
    return (names_of(served), begun + queue[many:])


def really_left(queue, real):
    shorter = []
    # A copy is walked: whoever is asked might change the list that was handed in.
    for name, left in list(queue):
        takes = real(name)
        if not is_whole(takes) or takes < 0:
            raise NoNumber("a service really takes a whole number of turns, from 0 on")
        if takes > 0:
            shorter.append((name, min(left, takes)))
    return shorter


def run_of(queue, hours, begin, real=None):
    waiting = queue if real is None else really_left(queue, real)
    rows = []
    # This ends, as behind the end of the hours there is always a counter.
    while waiting:
        turn = begin + len(rows)
        served = turn_served(waiting, hours.at(turn))
        rows.append((turn, served[0]))
        waiting = served[1]
    return rows


def ends_of(rows):
    ends = {}
    for turn, names in rows:
        for name in names:
            ends[name] = turn
    return ends


def had_by(rows, name, turn):
    return len([row for row in rows if row[0] <= turn and name in row[1]])


def walk_run(queue, hours, begin, rows):
    waiting = list(queue)
    for place, row in enumerate(rows):
        due = begin + place
        served = turn_served(waiting, hours.at(due))
        if not waiting or row[0] != due or row[1] != served[0]:
            return None
        waiting = served[1]
    return waiting
