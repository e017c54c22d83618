"""Queues: lists of tuples (name, left), in the order of rank."""

from latestturn.errors import Doubled, NoName, NoNumber, NoTicket, TooMany
from latestturn.hours import is_name, is_number

MOST_TICKETS = 60
MOST_LEFT = 20


def check_queue(queue):
    if len(queue) > MOST_TICKETS:
        raise TooMany("a queue has at most 60 tickets")
    ahead = {}
    for name, left in queue:
        if not is_name(name):
            raise NoName("a ticket has a name of 1 to 8 small letters and figures, a letter first")
        if name in ahead:
            raise Doubled(name)
        if not is_number(left, 1, MOST_LEFT):
            raise NoNumber("of a ticket 1 to 20 turns are left")
        ahead[name] = True
    return True


def names_of(queue):
    return [name for name, left in queue]


def place_of(queue, name):
    # Things that are no names are not compared: some claim to be like every text.
    if is_name(name):
        for place, ticket in enumerate(queue):
            if ticket[0] == name:
                return place
    raise NoTicket(name)


def left_of(queue, name):
    return queue[place_of(queue, name)][1]


def joined(queue, name, left):
    longer = queue + [(name, left)]
    check_queue(longer)
    return longer


def without(queue, name):
    place = place_of(queue, name)
    return queue[:place] + queue[place + 1:]


def shortened(queue, name, left):
    place = place_of(queue, name)
    if not is_number(left, 0, queue[place][1]):
        raise NoNumber("of a shortened ticket 0 to as many turns as are left of it may be left")
    if left == 0:
        return without(queue, name)
    return queue[:place] + [(queue[place][0], left)] + queue[place + 1:]


def lifted(queue, name, ahead):
    own = place_of(queue, name)
    return placed(queue, name, min(own, place_of(queue, ahead)))


def placed(queue, name, place):
    own = place_of(queue, name)
    if not is_number(place, 0, own):
        raise NoNumber("a ticket is placed at a place from 0 to its own")
    return queue[:place] + [queue[own]] + queue[place:own] + queue[own + 1:]
