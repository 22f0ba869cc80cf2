"""The order in which the kinds of an office can be reckoned: knots, rings, their pull, and what is refused."""

from doletaper.errors import Jumps, Tangled, Widens
from doletaper.leans import count_rate, leads_to, leans
from doletaper.ratios import NOUGHT, ONE, below, times


def knots(office):
    leads = {}
    for title in office.named():
        leads[title] = leads_to(office, title)
    found = []
    for title in leads:
        knot = [other for other in leads if other == title or (other in leads[title] and title in leads[other])]
        # Each knot comes up once, with its first kind.
        if knot[0] == title:
            found.append(knot)
    return found


def counted_within(leaning, title, knot):
    return [counted for counted in leaning[title] if counted in knot]


def is_free(knot, leaning, placed):
    reckoned = knot + placed
    return all([counted_within(leaning, title, reckoned) == leaning[title] for title in knot])


def ring_from(first, leaning, knot):
    titles = []
    title = first
    while title not in titles:
        titles.append(title)
        title = counted_within(leaning, title, knot)[0]
    return titles


def pull_of(office, titles):
    pull = ONE
    for at, title in enumerate(titles):
        kind = office.kind(title)
        counted = titles[(at + 1) % len(titles)]
        pull = times(pull, times(kind.greatest_rate(), count_rate(kind, counted)))
    return pull


def check_ring(office, titles, pull):
    ring = [office.kind(title) for title in titles]
    if any([kind.unit is not None or kind.limit is not None for kind in ring]):
        raise Jumps(titles)
    # Round an odd number of kinds the more goes in the less comes out, so that both are alike just once.
    if len(titles) % 2 == 0 and not below(pull, ONE):
        raise Widens(titles, pull)


def block_of(office, knot, leaning):
    most = max([len(counted_within(leaning, title, knot)) for title in knot])
    if most > 1:
        raise Tangled(knot)
    if most == 0:
        return ("alone", knot, NOUGHT)
    titles = ring_from(knot[0], leaning, knot)
    pull = pull_of(office, titles)
    check_ring(office, titles, pull)
    return ("ring", titles, pull)


def order(office):
    leaning = leans(office)
    waiting = knots(office)
    placed = []
    blocks = []
    while waiting:
        # One is always free: no two knots lead to one another.
        knot = [one for one in waiting if is_free(one, leaning, placed)][0]
        blocks.append(block_of(office, knot, leaning))
        placed.extend(knot)
        waiting = [one for one in waiting if one != knot]
    return blocks


def narrows(block):
    return block[0] == "ring" and below(block[2], ONE)
