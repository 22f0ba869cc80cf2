"""Who leans on whom: the kinds that a kind counts, and all that it leads to."""

from doletaper.errors import Unknown
from doletaper.ratios import total_of
from doletaper.steps import steps_from


def count_rate(kind, title):
    return total_of([rate for counted, rate in kind.counts if counted == title])


def leans(office):
    leaning = {}
    for kind in office.kinds:
        leaning[kind.title] = [title for title, rate in kind.counts]
    return leaning


def leads_to(office, title):
    leaning = leans(office)
    if title not in leaning:
        raise Unknown(title)
    return sorted(steps_from(leaning, leaning[title]))
