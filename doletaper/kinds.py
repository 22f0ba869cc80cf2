"""Kinds of help, caps over several kinds, and offices, which have both."""

from doletaper.bends import bands
from doletaper.errors import Unknown
from doletaper.people import pay_of
from doletaper.ratios import NOUGHT, greater, rounded, times, total_of


# The lists are copied: what is done to the ones handed in must not change what is told later.


class Kind:
    def __init__(self, title, parts, terms, pays, counts, offs, limit=None, unit=None, way="down"):
        self.title = title
        self.parts = list(parts)
        self.terms = list(terms)
        self.pays = list(pays)
        self.counts = list(counts)
        self.offs = list(offs)
        self.limit = limit
        self.unit = unit
        self.way = way

    def full_of(self, home):
        return total_of([part.worth(home) for part in self.parts])

    def may_have(self, home):
        return all([term.met(home) for term in self.terms])

    def owns(self, home):
        return [times(rate, (pay_of(home, low, high), 1)) for rate, low, high in self.pays]

    def taken_off(self):
        return bands(self.offs)

    def greatest_rate(self):
        if not self.offs:
            return NOUGHT
        most = self.offs[0][1]
        for off in self.offs:
            most = greater(most, off[1])
        return most

    def amount_from(self, left):
        if self.unit is None:
            return left
        return rounded(left, self.unit, self.way)


class Cap:
    def __init__(self, limit, each, titles):
        self.limit = limit
        self.each = each
        self.titles = list(titles)

    def room_for(self, home):
        return (self.limit + self.each * len(home), 1)


class Office:
    def __init__(self, kinds, caps):
        self.kinds = list(kinds)
        self.caps = list(caps)

    def kind(self, title):
        for one in self.kinds:
            if one.title == title:
                return one
        raise Unknown(title)

    def named(self):
        return [one.title for one in self.kinds]
