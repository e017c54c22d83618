"""Two runs beside one another: how much is left in each, and which of them eases the other."""

from latestturn.queues import names_of


def count_out(left, names):
    # Changes the dict left, which is always the caller's own.
    for name in names:
        if name in left:
            left[name] = left[name] - 1


def left_by(queue, rows, turn):
    left = dict(queue)
    for row in rows:
        if row[0] <= turn:
            count_out(left, row[1])
    return left


def worse_name(left, other_left):
    for name in left:
        if left[name] > other_left.get(name, 0):
            return name
    return None


def first_worse(queue, rows, other, other_rows):
    # Both are counted on from row to row: counting anew behind each turn takes too long.
    left = dict(queue)
    other_left = dict(other)
    # Both begin at the same turn, but the second one may have fewer rows.
    other_names = dict(other_rows)
    for turn, names in rows:
        count_out(left, names)
        count_out(other_left, other_names.get(turn, []))
        name = worse_name(left, other_left)
        if name is not None:
            return (turn, name)
    return None


def stands_within(queue, other):
    left = dict(queue)
    others = names_of(other)
    if [name for name in names_of(queue) if name in others] != others:
        return False
    return all([other_left <= left[name] for name, other_left in other])


def eases(queue, hours, other, other_hours, begin, last):
    if not stands_within(queue, other):
        return False
    return all([other_hours.at(turn) >= hours.at(turn) for turn in range(begin, last + 1)])
