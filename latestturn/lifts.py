"""Lifts: whether a ticket may stand ahead of another one, and how far ahead it may stand."""

from latestturn.queues import lifted, place_of, placed
from latestturn.verdicts import check_kept, settled


def ask_lift(queue, hours, begin, promises, name, ahead):
    return settled(lifted(queue, name, ahead), hours, begin, promises)


def foremost(queue, hours, begin, promises, name):
    # The place is asked for its refusal, which goes ahead of that of a promise.
    place_of(queue, name)
    check_kept(queue, hours, begin, promises)
    refused = []
    # This ends, as the ticket's own place will do.
    while True:
        place = len(refused)
        verdict = settled(placed(queue, name, place), hours, begin, promises)
        if verdict.granted():
            return (place, refused)
        refused.append(verdict)
