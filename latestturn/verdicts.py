"""Verdicts: whether all promises hold, or which is the first that does not."""

from latestturn.errors import NotKept
from latestturn.runs import ends_of, run_of


class Verdict:
    def __init__(self, queue, hours, begin):
        self.queue = list(queue)
        self.hours = hours
        self.begin = begin

    def granted(self):
        return False

    def word(self):
        return "open"

    def told(self):
        return (self.word(),)

    def holds(self, promises):
        return False


class Granted(Verdict):
    def granted(self):
        return True

    def word(self):
        return "granted"

    def holds(self, promises):
        return settled(self.queue, self.hours, self.begin, promises).granted()


class NoRoom(Verdict):
    def __init__(self, queue, hours, begin, turn):
        Verdict.__init__(self, queue, hours, begin)
        self.turn = turn

    def word(self):
        return "no counter"

    def told(self):
        return (self.word(), self.turn)

    def holds(self, promises):
        return self.turn >= self.begin and self.hours.at(self.turn) == 0


class Late(Verdict):
    def __init__(self, queue, hours, begin, name, promised, turn, run):
        Verdict.__init__(self, queue, hours, begin)
        self.name = name
        self.promised = promised
        self.turn = turn
        self.run = own_rows(run)

    def word(self):
        return "late"

    def told(self):
        return (self.word(), self.name, self.promised, self.turn, own_rows(self.run))

    def holds(self, promises):
        # All that it must show together is to be just what settling tells.
        return settled(self.queue, self.hours, self.begin, promises).told() == self.told()


def own_rows(rows):
    return [(turn, list(names)) for turn, names in rows]


def first_late(queue, ends, promises):
    for name, left in queue:
        if name in promises and ends[name] > promises[name]:
            return name
    return None


def check_kept(queue, hours, begin, promises):
    late = first_late(queue, ends_of(run_of(queue, hours, begin)), promises)
    if late is not None:
        raise NotKept(late)


def settled(queue, hours, begin, promises):
    run = run_of(queue, hours, begin)
    ends = ends_of(run)
    late = first_late(queue, ends, promises)
    if late is None:
        return Granted(queue, hours, begin)
    return Late(queue, hours, begin, late, promises[late], ends[late], run)
