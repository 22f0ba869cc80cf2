"""Offices told by rows: reading them, refusing them, telling them again."""

from doletaper.errors import NoRow, NoWord, Unknown
from doletaper.forms import words_read
from doletaper.kinds import Cap, Kind, Office
from doletaper.parts import Base, Each, From, Rent, Upto, row_of
from doletaper.words import rate_shown

FORMS = {
    "kind": "NAME",
    "base": "AMOUNT",
    "each": "AMOUNT LOW HIGH",
    "rent": "RATE MOST",
    "from": "MANY LOW HIGH",
    "upto": "MANY LOW HIGH",
    "pay": "RATE LOW HIGH",
    "counts": "NAME RATE",
    "off": "LIMIT RATE",
    "until": "LIMIT",
    "round": "UNIT WAY",
    "cap": "LIMIT EACH NAME",
}
# Rows of several sorts share one list of their kind, and the bound on it.
LISTS = {
    "base": "parts",
    "each": "parts",
    "rent": "parts",
    "from": "terms",
    "upto": "terms",
    "pay": "pays",
    "counts": "counts",
    "off": "offs",
    "until": "untils",
    "round": "rounds",
}
# What a kind counts has no bound here: it is held down by each name being counted once.
LONGEST = {"parts": 6, "terms": 6, "pays": 4, "offs": 6, "untils": 1, "rounds": 1}
MOST_KINDS = 8
MOST_CAPS = 4


def form_of(words):
    if words[0] not in FORMS:
        raise NoWord("no row begins so")
    form = FORMS[words[0]]
    if words[0] == "cap":
        further = len(words) - 1 - len(form.split(" "))
        return form + " NAME" * further
    return form


def values_of(words):
    form = form_of(words)
    values = words_read(form, words[1:])
    # The two ages of a row are its last two words.
    if form.endswith("LOW HIGH") and values[-2] > values[-1]:
        raise NoWord("the first age is above the second one")
    return values


def thing_of(sort, values):
    if sort == "base":
        return Base(values[0])
    if sort == "each":
        return Each(values[0], values[1], values[2])
    if sort == "rent":
        return Rent(values[0], values[1])
    if sort == "from":
        return From(values[0], values[1], values[2])
    if sort == "upto":
        return Upto(values[0], values[1], values[2])
    return tuple(values)


def new_draft(title):
    draft = {"title": title, "counts": []}
    for name in LONGEST:
        draft[name] = []
    return draft


def fits_in(draft, sort, values):
    if sort == "counts":
        return values[0] not in [title for title, rate in draft["counts"]]
    if len(draft[LISTS[sort]]) == LONGEST[LISTS[sort]]:
        return False
    if sort == "off" and draft["offs"]:
        return values[0] > draft["offs"][-1][0]
    return True


def kind_of(draft):
    limit = draft["untils"][0][0] if draft["untils"] else None
    rounding = draft["rounds"][0] if draft["rounds"] else (None, "down")
    return Kind(
        draft["title"],
        draft["parts"],
        draft["terms"],
        draft["pays"],
        draft["counts"],
        draft["offs"],
        limit,
        rounding[0],
        rounding[1],
    )


class Reader:
    def __init__(self):
        self.drafts = []
        self.caps = []
        # Kept in the order of the rows: the first name that no row tells is the one that is refused.
        self.asked_for = []

    def titles_told(self):
        return [draft["title"] for draft in self.drafts]

    def fits(self, sort, values):
        if sort == "kind":
            return len(self.drafts) < MOST_KINDS and values[0] not in self.titles_told()
        if sort == "cap":
            return len(self.caps) < MOST_CAPS and self.caps_none_twice(values[2:])
        return len(self.drafts) > 0 and fits_in(self.drafts[-1], sort, values)

    def caps_none_twice(self, titles):
        capped = list(titles)
        for cap in self.caps:
            capped.extend(cap.titles)
        return len(set(capped)) == len(capped)

    def take(self, sort, values):
        if sort == "kind":
            self.drafts.append(new_draft(values[0]))
        elif sort == "cap":
            self.caps.append(Cap(values[0], values[1], values[2:]))
            self.asked_for.extend(values[2:])
        else:
            self.drafts[-1][LISTS[sort]].append(thing_of(sort, values))
            if sort == "counts":
                self.asked_for.append(values[0])

    def office_told(self):
        for title in self.asked_for:
            if title not in self.titles_told():
                raise Unknown(title)
        return Office([kind_of(draft) for draft in self.drafts], self.caps)


def read(rows):
    reader = Reader()
    for place, row in enumerate(rows):
        words = row.split(" ")
        try:
            values = values_of(words)
        except NoWord:
            raise NoRow(place) from None
        if not reader.fits(words[0], values):
            raise NoRow(place)
        reader.take(words[0], values)
    return reader.office_told()


def rows_of_kind(kind):
    rows = [row_of(["kind", kind.title])]
    rows.extend([part.row() for part in kind.parts])
    rows.extend([term.row() for term in kind.terms])
    rows.extend([row_of(["pay", rate_shown(rate), low, high]) for rate, low, high in kind.pays])
    rows.extend([row_of(["counts", title, rate_shown(rate)]) for title, rate in kind.counts])
    rows.extend([row_of(["off", limit, rate_shown(rate)]) for limit, rate in kind.offs])
    if kind.limit is not None:
        rows.append(row_of(["until", kind.limit]))
    if kind.unit is not None:
        rows.append(row_of(["round", kind.unit, kind.way]))
    return rows


def rows_of(office):
    rows = []
    for kind in office.kinds:
        rows.extend(rows_of_kind(kind))
    for cap in office.caps:
        rows.append(row_of(["cap", cap.limit, cap.each] + cap.titles))
    return rows
