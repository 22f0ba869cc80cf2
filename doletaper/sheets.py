"""The sheet of a kind for a home, and the amount of a kind over all amounts of one that it counts."""

from doletaper.bends import after, bend_at, floored, scaled, straight, summed
from doletaper.leans import count_rate
from doletaper.ratios import NOUGHT, below, greater, minus, times, total_of

MINUS_ONE = (-1, 1)


def others_of(counts, told):
    return [times(rate, told[title]) for title, rate in counts]


def may_by(kind, home, counted):
    if kind.limit is not None and below((kind.limit, 1), counted):
        return False
    return kind.may_have(home)


def left_by(may, full, taken):
    return greater(minus(full, taken), NOUGHT) if may else NOUGHT


def sheet(kind, home, told):
    worths = [part.worth(home) for part in kind.parts]
    full = total_of(worths)
    owns = kind.owns(home)
    others = others_of(kind.counts, told)
    counted = total_of(owns + others)
    may = may_by(kind, home, counted)
    taken = bend_at(kind.taken_off(), counted)
    left = left_by(may, full, taken)
    return (kind.title, worths, full, owns, others, counted, may, taken, left, kind.amount_from(left))


def falling(kind, home, told, inner):
    if not kind.may_have(home):
        return straight(NOUGHT, NOUGHT)
    others = others_of([row for row in kind.counts if row[0] != inner], told)
    counted = straight(total_of(kind.owns(home) + others), count_rate(kind, inner))
    taken = after(kind.taken_off(), counted)
    full = straight(kind.full_of(home), NOUGHT)
    return floored(summed(full, scaled(taken, MINUS_ONE)))
