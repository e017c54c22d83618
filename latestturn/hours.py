"""Kinds of things, and hours: how many counters there are at each turn."""

from latestturn.errors import NoCounter, NoHours

LETTERS = "abcdefghijklmnopqrstuvwxyz"
FIGURES = "0123456789"
MOST_SIGNS = 8

MOST_ROWS = 16
MOST_TURNS = 100
MOST_COUNTERS = 8


def is_whole(thing):
    # Python counts True and False among the whole numbers; the hall does not.
    return isinstance(thing, int) and not isinstance(thing, bool)


def is_number(thing, low, high):
    return is_whole(thing) and low <= thing <= high


def is_name(thing):
    if not isinstance(thing, str) or not 1 <= len(thing) <= MOST_SIGNS:
        return False
    return thing[0] in LETTERS and all([sign in LETTERS + FIGURES for sign in thing])


def is_row(thing):
    if not isinstance(thing, tuple) or len(thing) != 2:
        return False
    return is_number(thing[0], 1, MOST_TURNS) and is_number(thing[1], 0, MOST_COUNTERS)


def check_hours(rows, rest):
    if not isinstance(rows, list) or len(rows) > MOST_ROWS:
        raise NoHours("hours have a list of at most 16 rows")
    if not all([is_row(row) for row in rows]):
        raise NoHours("a row has 1 to 100 turns with 0 to 8 counters each")
    if not is_number(rest, 1, MOST_COUNTERS):
        raise NoHours("the rest is 1 to 8 counters")


def kept_rows(rows, rest):
    kept = []
    for turns, counters in rows:
        if kept and kept[-1][1] == counters:
            kept[-1] = (kept[-1][0] + turns, counters)
        elif turns > 0:
            # A row that was cut (14) may have a piece without turns.
            kept.append((turns, counters))
    if kept and kept[-1][1] == rest:
        kept.pop()
    return kept


def spans_of(rows):
    # Tuples (start, stop, counters): stop is the first turn behind the row.
    spans = []
    start = 0
    for turns, counters in rows:
        spans.append((start, start + turns, counters))
        start = start + turns
    return spans


def cut_rows(spans, first, last, change):
    # The pieces ahead of first, from first to last, and behind last, of each row in turn.
    pieces = []
    for start, stop, counters in spans:
        ahead = max(0, min(stop, first) - start)
        behind = max(0, stop - max(start, last + 1))
        pieces.append((ahead, counters))
        pieces.append((stop - start - ahead - behind, counters + change))
        pieces.append((behind, counters))
    return pieces


class Hours:
    def __init__(self, rows, rest):
        check_hours(rows, rest)
        self.kept_rest = rest
        self.spans = spans_of(kept_rows(rows, rest))

    def rows(self):
        return [(stop - start, counters) for start, stop, counters in self.spans]

    def rest(self):
        return self.kept_rest

    def end(self):
        return self.spans[-1][1] if self.spans else 0

    def at(self, turn):
        # By halves, as hours with many bookings have many rows, and runs ask at every turn.
        low = 0
        high = len(self.spans)
        while low < high:
            middle = (low + high) // 2
            if turn < self.spans[middle][1]:
                high = middle
            else:
                low = middle + 1
        return self.spans[low][2] if low < len(self.spans) else self.kept_rest

    def between(self, first, last):
        # By rows, not by turns: last may be any whole number, however great.
        total = self.kept_rest * max(0, last + 1 - max(self.end(), first))
        for start, stop, counters in self.spans:
            total = total + counters * max(0, min(stop, last + 1) - max(start, first))
        return total

    def free(self, first, last):
        # The rest is never 0, so only the rows can have a turn without a counter.
        for start, stop, counters in self.spans:
            turn = max(start, first)
            if counters == 0 and turn < stop and turn <= last:
                return turn
        return None

    def less(self, first, last):
        turn = self.free(first, last)
        if turn is not None:
            raise NoCounter(turn)
        return self.changed(first, last, -1)

    def more(self, first, last):
        return self.changed(first, last, 1)

    def changed(self, first, last, change):
        # The rows are given behind the making, which would refuse rows beyond its bounds.
        other = Hours([], self.kept_rest)
        rows = self.rows()
        if first <= last:
            rows.append((max(0, last + 1 - self.end()), self.kept_rest))
            rows = cut_rows(spans_of(rows), first, last, change)
        other.spans = spans_of(kept_rows(rows, self.kept_rest))
        return other
