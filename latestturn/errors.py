"""The refusals: each of a class of its own, straight under HallError."""


class HallError(ValueError):
    pass


class NoName(HallError):
    pass


class NoNumber(HallError):
    pass


class NoHours(HallError):
    pass


class NoLine(HallError):
    pass


class TooMany(HallError):
    pass


# The errors below are made with things, and have no words of their own: what was
# asked by may be any thing at all, and not every thing can be written in a text.


class Doubled(HallError):
    def __init__(self, name):
        HallError.__init__(self, name)
        self.name = name


class Taken(HallError):
    def __init__(self, name):
        HallError.__init__(self, name)
        self.name = name


class NoTicket(HallError):
    def __init__(self, name):
        HallError.__init__(self, name)
        self.name = name


class NotBegun(HallError):
    def __init__(self, name):
        HallError.__init__(self, name)
        self.name = name


class NoBooking(HallError):
    def __init__(self, name):
        HallError.__init__(self, name)
        self.name = name


class NotKept(HallError):
    def __init__(self, name):
        HallError.__init__(self, name)
        self.name = name


class NoBreak(HallError):
    def __init__(self, first, last):
        HallError.__init__(self, first, last)
        self.first = first
        self.last = last


class NoCounter(HallError):
    def __init__(self, turn):
        HallError.__init__(self, turn)
        self.turn = turn
