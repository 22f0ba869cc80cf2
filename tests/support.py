"""What several test files ask: some persons, kinds and rows, the form of fractions and bends, what bends come to."""

from fractions import Fraction
from math import gcd

from doletaper.kinds import Kind, Office

BIG = 10 ** 299 + 7
BIGGER = 9 * 10 ** 299 + 13

ANN = ("ann", 40, 1000, 300)
BOB = ("bob", 17, 70, 0)
CYD = ("cyd", 18, 5, 25)
DEE = ("dee", 0, 0, 0)
OLD = ("old", 150, 10 ** 9, 10 ** 9)
HOME = [ANN, BOB, CYD]
HOMES = [[], [ANN], [BOB, DEE], HOME, HOME + [DEE, OLD]]

NOUGHT = (0, 1)
ONE = (1, 1)
HALF = (1, 2)
EVERYWHERE_NOUGHT = [(NOUGHT, NOUGHT, NOUGHT)]


def is_whole(thing):
    return type(thing) is int


def is_fraction(thing):
    return (
        type(thing) is tuple
        and len(thing) == 2
        and is_whole(thing[0])
        and is_whole(thing[1])
        and thing[1] >= 1
        and gcd(thing[0], thing[1]) == 1
    )


def pair_of(number):
    number = Fraction(number)
    return (number.numerator, number.denominator)


def number_of(pair):
    return Fraction(pair[0], pair[1])


def value_at(bend, place):
    """What the bend comes to at the place, both place and answer a Fraction."""
    found = None
    for start, value, slope in bend:
        if number_of(start) <= place:
            found = number_of(value) + number_of(slope) * (place - number_of(start))
    return found


def bend_fault(bend):
    """None where the thing is a bend told by its one list, else what is wrong with it."""
    if type(bend) is not list or not bend:
        return "no list with a stretch"
    for stretch in bend:
        if type(stretch) is not tuple or len(stretch) != 3 or not all(is_fraction(part) for part in stretch):
            return f"no stretch of three fractions: {stretch}"
    if bend[0][0] != (0, 1):
        return "the first start is not nought"
    for ahead, behind in zip(bend, bend[1:]):
        width = number_of(behind[0]) - number_of(ahead[0])
        if width <= 0:
            return f"starts don't rise at {behind}"
        if number_of(ahead[1]) + number_of(ahead[2]) * width != number_of(behind[1]):
            return f"not joined at {behind}"
        if ahead[2] == behind[2]:
            return f"neighbours with one slope at {behind}"
    return None


def bend_through(start_value, pieces):
    """The bend with a value at nought and pieces (start, slope), starts rising from 0, slopes unlike."""
    bend = []
    value = Fraction(start_value)
    for number, (start, slope) in enumerate(pieces):
        if number:
            value += Fraction(pieces[number - 1][1]) * (Fraction(start) - Fraction(pieces[number - 1][0]))
        bend.append((pair_of(start), pair_of(value), pair_of(slope)))
    return bend


def random_bend(chance, length):
    starts = [Fraction(0)]
    slopes = []
    for number in range(length):
        slope = Fraction(chance.randint(-6, 6), chance.randint(1, 4))
        while slopes and slope == slopes[-1]:
            slope = Fraction(chance.randint(-6, 6), chance.randint(1, 4))
        slopes.append(slope)
        starts.append(starts[-1] + Fraction(chance.randint(1, 12), chance.randint(1, 5)))
    value = Fraction(chance.randint(-12, 12), chance.randint(1, 3))
    return bend_through(value, list(zip(starts, slopes)))


def probes(bends):
    """Nought, all starts, places between them and beyond the last, as Fractions."""
    starts = sorted({number_of(stretch[0]) for bend in bends for stretch in bend})
    between = [(one + other) / 2 for one, other in zip(starts, starts[1:])]
    beyond = [starts[-1] + Fraction(1, 3), starts[-1] + 1, starts[-1] + 1000]
    return sorted(starts + between + beyond)


def bare(**changed):
    """A kind without anything but what is told."""
    given = {"title": "food", "parts": [], "terms": [], "pays": [], "counts": [], "offs": []}
    given.update(changed)
    return Kind(**given)


TITLES = ["food", "rent", "abc", "kind", "cap", "zeds", "a", "eightlet"]


def shown(number):
    number = Fraction(number)
    return str(number.numerator) if number.denominator == 1 else f"{number.numerator}/{number.denominator}"


def random_rate(chance):
    return shown(Fraction(chance.randint(0, 6), chance.randint(1, 5)))


def random_ages(chance):
    return "{} {}".format(*sorted([chance.choice([0, 17, 18, 40, 150]), chance.randint(0, 150)]))


def random_kind_rows(chance, titles):
    """The rows under a kind's row, sort by sort as an office is told."""
    rows = []
    for turn in range(chance.randint(0, 6)):
        rows.append(chance.choice([
            f"base {chance.randint(0, 900)}", f"each {chance.randint(0, 90)} {random_ages(chance)}",
            f"rent {random_rate(chance)} {chance.randint(0, 900)}",
        ]))
    for turn in range(chance.choice([0, 0, 0, 1, 2, 6])):
        rows.append(f"{chance.choice(['from', 'upto'])} {chance.randint(0, 3)} {random_ages(chance)}")
    for turn in range(chance.randint(0, 4)):
        rows.append(f"pay {random_rate(chance)} {random_ages(chance)}")
    for other in chance.sample(titles, min(len(titles), chance.choice([0, 0, 1, 1, 2, 8]))):
        rows.append(f"counts {other} {random_rate(chance)}")
    for limit in sorted(chance.sample(range(0, 1500), chance.randint(0, 6))):
        rows.append(f"off {limit} {random_rate(chance)}")
    if chance.random() < 0.3:
        rows.append(f"until {chance.randint(0, 1500)}")
    if chance.random() < 0.3:
        rows.append(f"round {chance.randint(1, 60)} {chance.choice(['down', 'up', 'near'])}")
    return rows


def random_rows(chance):
    """Rows of an office as it is told."""
    titles = chance.sample(TITLES, chance.randint(0, 8))
    rows = []
    for title in titles:
        rows.append(f"kind {title}")
        rows.extend(random_kind_rows(chance, titles))
    left = chance.sample(titles, len(titles))
    for turn in range(chance.randint(0, 4)):
        many = chance.randint(1, 3)
        if len(left) >= many:
            rows.append(" ".join(["cap", str(chance.randint(0, 999)), str(chance.randint(0, 99))] + left[:many]))
            left = left[many:]
    return rows


def random_home(chance):
    home = [("ann", chance.randint(0, 150), chance.randint(0, 900), chance.randint(0, 400)),
            ("bob", chance.choice([0, 17, 18, 40]), chance.randint(0, 900), chance.randint(0, 400)), CYD, DEE]
    return [who for who in home if chance.random() < 0.6]


def office_of(counts, **changed):
    """An office of kinds that count each other at the rate 1, told as {title: titles}; changed: fields by title."""
    return Office([bare(title=title, counts=[(other, ONE) for other in others], **changed.get(title, {}))
                   for title, others in counts.items()], [])


def random_counts(chance):
    """For each title of an office, in its order, the titles that it counts."""
    titles = chance.sample(TITLES, chance.randint(1, 8))
    likely = chance.choice([0.1, 0.15, 0.2, 0.3])
    counts = {}
    for title in titles:
        counted = [other for other in titles if chance.random() < likely]
        counts[title] = chance.sample(counted, len(counted))
    return counts


def reached(counts):
    """For each title all that one comes to by going once or more, reckoned apart: step by step till nothing is new."""
    found = {title: set(others) for title, others in counts.items()}
    for turn in counts:
        found = {title: others.union(*[found[other] for other in others]) for title, others in found.items()}
    return found
