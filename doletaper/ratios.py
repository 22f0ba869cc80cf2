"""Fractions: tuples (top, bottom) in lowest terms, the bottom from 1 on."""

from doletaper.errors import NoAmount

NOUGHT = (0, 1)
ONE = (1, 1)


def common_divisor(one, other):
    while other != 0:
        rest = one % other
        one = other
        other = rest
    return one


def fraction(top, bottom):
    if bottom == 0:
        raise NoAmount("the bottom of a fraction is not 0")
    divisor = common_divisor(abs(top), abs(bottom))
    if bottom < 0:
        # The sign belongs to the top.
        divisor = -divisor
    return (top // divisor, bottom // divisor)


def plus(one, other):
    return fraction(one[0] * other[1] + other[0] * one[1], one[1] * other[1])


def total_of(ones):
    total = NOUGHT
    for one in ones:
        total = plus(total, one)
    return total


def minus(one, other):
    return fraction(one[0] * other[1] - other[0] * one[1], one[1] * other[1])


def times(one, other):
    return fraction(one[0] * other[0], one[1] * other[1])


def divided(one, other):
    # Where the other one is nought so is this bottom, and it is refused with that.
    return fraction(one[0] * other[1], one[1] * other[0])


def below(one, other):
    return one[0] * other[1] < other[0] * one[1]


def lesser(one, other):
    return other if below(other, one) else one


def greater(one, other):
    return other if below(one, other) else one


def floor_of(one):
    return one[0] // one[1]


def ceil_of(one):
    return -(-one[0] // one[1])


def rounded(one, unit, way):
    units = divided(one, (unit, 1))
    if way == "down":
        return (floor_of(units) * unit, 1)
    if way == "up":
        return (ceil_of(units) * unit, 1)
    # Half a unit more, then down: so of two multiples as near the greater one comes out.
    return (floor_of(plus(units, (1, 2))) * unit, 1)
