"""Why somebody waits: the turns at which a ticket is not served, and who is served then."""

from latestturn.latest import witness_run
from latestturn.queues import names_of
from latestturn.runs import ends_of, had_by


def waits_of(queue, hours, begin, name):
    return [row for row in witness_run(queue, hours, begin, name) if name not in row[1]]


def tolls_of(queue, hours, begin, name):
    waits = waits_of(queue, hours, begin, name)
    ends = ends_of(waits)
    return [(other, had_by(waits, other, ends[other]), ends[other]) for other in names_of(queue) if other in ends]


def shows_why(queue, hours, begin, name, rows):
    return rows == waits_of(queue, hours, begin, name)
