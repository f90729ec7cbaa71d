"""One piece of work: a row of places, a mark of how far it is done, and the lending that it has, if any."""


class Piece:
    def __init__(self, number, low, high):
        self.number = number
        self.low = low
        self.high = high
        self.mark = low
        self.lending = None

    def rest(self):
        return self.high - self.mark

    def is_done(self):
        return self.mark == self.high

    def is_lent(self):
        return self.lending is not None

    def is_free(self):
        return not self.is_lent() and not self.is_done()

    def is_late(self, moment):
        return self.is_lent() and moment > self.lending[2]

    def is_untouched(self):
        return self.is_free() and self.mark == self.low

    def has_token(self, token):
        return self.is_lent() and self.lending[0] == token

    def shown(self):
        return (self.number, self.low, self.high, self.mark, self.lending)
