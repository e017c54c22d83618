"""Bookings: whether a counter may be kept at some turns, and from which turn on it first may."""

from latestturn.errors import NoNumber
from latestturn.hours import is_number
from latestturn.verdicts import NoRoom, check_kept, settled

GREATEST_TURN = 100000
MOST_BOOKED = 50


def check_booked(begin, first, last):
    if not is_number(first, begin, GREATEST_TURN):
        raise NoNumber("the first turn of a booking is from begin to 100000")
    if not is_number(last, first, GREATEST_TURN):
        raise NoNumber("the last turn of a booking is from its first one to 100000")
    if last - first >= MOST_BOOKED:
        raise NoNumber("a booking has at most 50 turns")


def check_wanted(begin, start, many):
    if not is_number(start, begin, GREATEST_TURN):
        raise NoNumber("a booking is looked for from a turn from begin to 100000 on")
    if not is_number(many, 1, MOST_BOOKED):
        raise NoNumber("a booking has 1 to 50 turns")


def settled_booking(queue, hours, begin, promises, first, last):
    turn = hours.free(first, last)
    if turn is not None:
        return NoRoom(queue, hours, begin, turn)
    return settled(queue, hours.less(first, last), begin, promises)


def ask_booking(queue, hours, begin, promises, first, last):
    check_booked(begin, first, last)
    return settled_booking(queue, hours, begin, promises, first, last)


def first_booking(queue, hours, begin, promises, start, many):
    check_wanted(begin, start, many)
    check_kept(queue, hours, begin, promises)
    refused = []
    # This ends: behind the run and the end of the hours a counter less makes nobody later.
    while True:
        first = start + len(refused)
        # Not asked for as by 64, as that bounds the turns, and the first booking may lie beyond.
        verdict = settled_booking(queue, hours, begin, promises, first, first + many - 1)
        if verdict.granted():
            return (first, refused)
        refused.append(verdict)
