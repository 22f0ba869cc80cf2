"""Parts, which tell how much a kind of help is, and terms, which tell who may have it."""

from doletaper.people import heads, rent_of
from doletaper.ratios import NOUGHT, lesser, times
from doletaper.words import rate_shown


def row_of(words):
    return " ".join([str(word) for word in words])


class Part:
    def worth(self, home):
        return NOUGHT

    def row(self):
        return ""


class Base(Part):
    def __init__(self, amount):
        self.amount = amount

    def worth(self, home):
        return (self.amount, 1)

    def row(self):
        return row_of(["base", self.amount])


class Each(Part):
    def __init__(self, amount, low, high):
        self.amount = amount
        self.low = low
        self.high = high

    def worth(self, home):
        return (self.amount * heads(home, self.low, self.high), 1)

    def row(self):
        return row_of(["each", self.amount, self.low, self.high])


class Rent(Part):
    def __init__(self, rate, most):
        self.rate = rate
        self.most = most

    def worth(self, home):
        return lesser(times(self.rate, (rent_of(home), 1)), (self.most, 1))

    def row(self):
        return row_of(["rent", rate_shown(self.rate), self.most])


class Term:
    def met(self, home):
        return True

    def row(self):
        return ""


class From(Term):
    def __init__(self, many, low, high):
        self.many = many
        self.low = low
        self.high = high

    def met(self, home):
        return heads(home, self.low, self.high) >= self.many

    def row(self):
        return row_of(["from", self.many, self.low, self.high])


class Upto(Term):
    def __init__(self, many, low, high):
        self.many = many
        self.low = low
        self.high = high

    def met(self, home):
        return heads(home, self.low, self.high) <= self.many

    def row(self):
        return row_of(["upto", self.many, self.low, self.high])
