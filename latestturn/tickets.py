"""Tickets: of everybody who came, how many turns they had, and the numbers told to them."""


class Ticket:
    def __init__(self, name, most, came):
        self.name = name
        self.most = most
        self.came = came
        self.turns_had = 0
        self.told_numbers = []

    def had(self):
        return self.turns_had

    def left(self):
        return self.most - self.turns_had

    def numbers(self):
        return list(self.told_numbers)

    def word(self):
        return "ticket"

    def told(self):
        return (self.word(), self.most, self.came, self.had(), self.left(), self.numbers())

    def add_turn(self):
        self.turns_had = self.turns_had + 1

    def add_number(self, number):
        self.told_numbers.append(number)

    def take_over(self, other):
        self.turns_had = other.had()
        self.told_numbers = other.numbers()


class Waiting(Ticket):
    def word(self):
        return "waiting"


class Served(Ticket):
    def left(self):
        # A service may end sooner: then it had fewer turns than its greatest length.
        return 0

    def word(self):
        return "served"


class Gone(Ticket):
    def word(self):
        return "gone"


def as_served(ticket):
    other = Served(ticket.name, ticket.most, ticket.came)
    other.take_over(ticket)
    return other


def as_gone(ticket):
    other = Gone(ticket.name, ticket.most, ticket.came)
    other.take_over(ticket)
    return other
