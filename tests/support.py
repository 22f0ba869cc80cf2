"""What several test files ask: some persons, the form of fractions and bends, what a bend comes to, reckoned apart."""

from fractions import Fraction
from math import gcd

BIG = 10 ** 299 + 7
BIGGER = 9 * 10 ** 299 + 13

ANN = ("ann", 40, 1000, 300)
BOB = ("bob", 17, 70, 0)
CYD = ("cyd", 18, 5, 25)
DEE = ("dee", 0, 0, 0)
OLD = ("old", 150, 10 ** 9, 10 ** 9)


def is_whole(thing):
    return type(thing) is int


def is_fraction(thing):
    return (
        type(thing) is tuple
        and len(thing) == 2
        and is_whole(thing[0])
        and is_whole(thing[1])
        and thing[1] >= 1
        and gcd(thing[0], thing[1]) == 1
    )


def pair_of(number):
    number = Fraction(number)
    return (number.numerator, number.denominator)


def number_of(pair):
    return Fraction(pair[0], pair[1])


def value_at(bend, place):
    """What the bend comes to at the place, both place and answer a Fraction."""
    found = None
    for start, value, slope in bend:
        if number_of(start) <= place:
            found = number_of(value) + number_of(slope) * (place - number_of(start))
    return found


def bend_fault(bend):
    """None where the thing is a bend told by its one list, else what is wrong with it."""
    if type(bend) is not list or not bend:
        return "no list with a stretch"
    for stretch in bend:
        if type(stretch) is not tuple or len(stretch) != 3 or not all(is_fraction(part) for part in stretch):
            return f"no stretch of three fractions: {stretch}"
    if bend[0][0] != (0, 1):
        return "the first start is not nought"
    for ahead, behind in zip(bend, bend[1:]):
        width = number_of(behind[0]) - number_of(ahead[0])
        if width <= 0:
            return f"starts don't rise at {behind}"
        if number_of(ahead[1]) + number_of(ahead[2]) * width != number_of(behind[1]):
            return f"not joined at {behind}"
        if ahead[2] == behind[2]:
            return f"neighbours with one slope at {behind}"
    return None


def bend_through(start_value, pieces):
    """The bend with a value at nought and pieces (start, slope), starts rising from 0, slopes unlike."""
    bend = []
    value = Fraction(start_value)
    for number, (start, slope) in enumerate(pieces):
        if number:
            value += Fraction(pieces[number - 1][1]) * (Fraction(start) - Fraction(pieces[number - 1][0]))
        bend.append((pair_of(start), pair_of(value), pair_of(slope)))
    return bend


def random_bend(chance, length):
    starts = [Fraction(0)]
    slopes = []
    for number in range(length):
        slope = Fraction(chance.randint(-6, 6), chance.randint(1, 4))
        while slopes and slope == slopes[-1]:
            slope = Fraction(chance.randint(-6, 6), chance.randint(1, 4))
        slopes.append(slope)
        starts.append(starts[-1] + Fraction(chance.randint(1, 12), chance.randint(1, 5)))
    value = Fraction(chance.randint(-12, 12), chance.randint(1, 3))
    return bend_through(value, list(zip(starts, slopes)))


def probes(bends):
    """Nought, all starts, places between them and beyond the last, as Fractions."""
    starts = sorted({number_of(stretch[0]) for bend in bends for stretch in bend})
    between = [(one + other) / 2 for one, other in zip(starts, starts[1:])]
    beyond = [starts[-1] + Fraction(1, 3), starts[-1] + 1, starts[-1] + 1000]
    return sorted(starts + between + beyond)
