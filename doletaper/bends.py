"""Bends: joined functions in straight stretches (start, value, slope), from nought on."""

from doletaper.errors import NoBend
from doletaper.ratios import NOUGHT, ONE, below, divided, greater, lesser, minus, plus, times


def come_to(stretch, place):
    return plus(stretch[1], times(stretch[2], minus(place, stretch[0])))


def place_of(stretch, value):
    return plus(stretch[0], divided(minus(value, stretch[1]), stretch[2]))


def merged(stretches):
    # A bend is told by just one list, so a stretch that goes on like the one ahead of it is left out.
    kept = []
    for stretch in stretches:
        if not kept or kept[-1][2] != stretch[2]:
            kept.append(stretch)
    return kept


def with_one_beyond(places):
    # The last stretch has no end: how it goes on is seen at one place beyond its start.
    return places + [plus(places[-1], ONE)]


def drawn(places, values):
    stretches = []
    for at in range(len(places) - 1):
        rise = minus(values[at + 1], values[at])
        width = minus(places[at + 1], places[at])
        stretches.append((places[at], values[at], divided(rise, width)))
    return merged(stretches)


def index_at(one, place):
    low = 0
    high = len(one)
    while high - low > 1:
        middle = (low + high) // 2
        if below(place, one[middle][0]):
            high = middle
        else:
            low = middle
    return low


def end_of(one, at):
    return one[at + 1][0] if at + 1 < len(one) else None


def starts_between(one, low, high):
    first = index_at(one, low) + 1
    if high is None:
        return [stretch[0] for stretch in one[first:]]
    behind = index_at(one, high) + 1
    return [stretch[0] for stretch in one[first:behind] if stretch[0] != high]


def straight(value, slope):
    return [(NOUGHT, value, slope)]


def check_limits(pairs):
    ahead = -1
    for pair in pairs:
        if pair[0] <= ahead:
            raise NoBend("limits are from nought on, each above the one ahead")
        ahead = pair[0]


def bands(pairs):
    check_limits(pairs)
    stretches = straight(NOUGHT, NOUGHT)
    for limit, rate in pairs:
        start = (limit, 1)
        value = come_to(stretches[-1], start)
        if limit == 0:
            # No place is ahead of this limit, so the flat stretch has none.
            stretches.pop()
        stretches.append((start, value, rate))
    return merged(stretches)


def bend_at(one, place):
    return come_to(one[index_at(one, place)], place)


def summed(one, other):
    starts = []
    for at, stretch in enumerate(one):
        starts.append(stretch[0])
        starts.extend(starts_between(other, stretch[0], end_of(one, at)))
    places = with_one_beyond(starts)
    return drawn(places, [plus(bend_at(one, place), bend_at(other, place)) for place in places])


def scaled(one, rate):
    return merged([(stretch[0], times(stretch[1], rate), times(stretch[2], rate)) for stretch in one])


def crosses_nought(stretch, end):
    if stretch[2] == NOUGHT:
        return False
    place = place_of(stretch, NOUGHT)
    return below(stretch[0], place) and (end is None or below(place, end))


def floored(one):
    starts = []
    for at, stretch in enumerate(one):
        starts.append(stretch[0])
        if crosses_nought(stretch, end_of(one, at)):
            starts.append(place_of(stretch, NOUGHT))
    places = with_one_beyond(starts)
    return drawn(places, [greater(bend_at(one, place), NOUGHT) for place in places])


def is_somewhere_below_nought(one):
    return below(one[-1][2], NOUGHT) or any([below(stretch[1], NOUGHT) for stretch in one])


def turns_within(outer, inner, at):
    # From one of these places to the next the outer bend goes straight, and so does what comes out.
    stretch = inner[at]
    if stretch[2] == NOUGHT:
        return []
    if at + 1 == len(inner):
        values = starts_between(outer, stretch[1], None)
    else:
        end_value = inner[at + 1][1]
        values = starts_between(outer, lesser(stretch[1], end_value), greater(stretch[1], end_value))
    turns = [place_of(stretch, value) for value in values]
    return turns if below(NOUGHT, stretch[2]) else list(reversed(turns))


def after(outer, inner):
    if is_somewhere_below_nought(inner):
        raise NoBend("the inner bend is below nought at some place")
    starts = []
    for at, stretch in enumerate(inner):
        starts.append(stretch[0])
        starts.extend(turns_within(outer, inner, at))
    places = with_one_beyond(starts)
    return drawn(places, [bend_at(outer, bend_at(inner, place)) for place in places])


def steepest(one):
    most = NOUGHT
    for stretch in one:
        slope = stretch[2]
        most = greater(most, (abs(slope[0]), slope[1]))
    return most


def stays(one):
    if below(one[0][1], NOUGHT) or any([not below(stretch[2], ONE) for stretch in one]):
        raise NoBend("the bend is below nought at nought, or one of its slopes is not below 1")
    # Value less place falls all along, so the bend stays in the last stretch that doesn't begin below its own place.
    kept = one[0]
    for stretch in one:
        if not below(stretch[1], stretch[0]):
            kept = stretch
    return plus(kept[0], divided(minus(kept[1], kept[0]), minus(ONE, kept[2])))
