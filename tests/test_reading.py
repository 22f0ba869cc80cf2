import random
import re
import unittest
from math import gcd

from doletaper.errors import HelpError, NoRow, Unknown
from doletaper.kinds import Cap, Kind, Office
from doletaper.parts import Base, Each, From, Rent, Upto
from doletaper.reading import read, rows_of
from support import HALF, ONE, TITLES, random_rows

COINS = (["0", "1", "10", "999999999", "1000000000"],
         ["1000000001", "9999999999", "10000000000", "-1", "+1", "01", "00", "1/2", "1.0", "a", "ten", "1_0", "1,0"])
UNIT = (["1", "7", "1000000000"], ["0", "1000000001", "-1", "01", "1/2", "a"])
MANY = (["0", "1", "60"], ["61", "100", "-1", "00", "060", "1/2", "a"])
LOW = (["0", "1", "99"], ["151", "1000", "-1", "00", "017", "1/2", "a"])
HIGH = (["99", "149", "150"], ["151", "1000", "-1", "099", "99/2", "a"])
RATE = (["0", "1", "3", "9999", "1/2", "3/2", "9999/9998", "1/9999"],
        ["10000", "-1", "01", "0/1", "0/2", "1/1", "2/4", "3/1", "1/0", "1/10000", "10000/3", "/2", "1/", "1/2/3", "01/2",
         "1/02", "-1/2", "1/-2", "0.5", "a", "/"])
NAME = (["a", "eightlet", "kind", "until"], ["ninelette", "A", "Food", "food1", "a-b", "1", "\u00e4"])
WAY = (["down", "up", "near"], ["Down", "UP", "nearest", "dow", "downup", "0", "none"])
FORMS = {
    "kind": [NAME], "base": [COINS], "each": [COINS, LOW, HIGH], "rent": [RATE, COINS], "from": [MANY, LOW, HIGH],
    "upto": [MANY, LOW, HIGH], "pay": [RATE, LOW, HIGH], "counts": [NAME, RATE], "off": [COINS, RATE],
    "until": [COINS], "round": [UNIT, WAY], "cap": [COINS, COINS, NAME],
}
UNDER_A_KIND = [sort for sort in FORMS if sort not in ("kind", "cap")]
A_ROW = {sort: " ".join([sort] + [good[-1] for good, bad in words]) for sort, words in FORMS.items()}
A_ROW["counts"] = "counts food 1/2"
A_ROW["cap"] = "cap 5 6 food"


class Refusals(unittest.TestCase):
    def refused_at(self, rows, place):
        before = list(rows)
        with self.assertRaises(HelpError) as caught:
            read(rows)
        self.assertIs(type(caught.exception), NoRow, rows)
        self.assertEqual(caught.exception.place, place, rows)
        self.assertIs(type(caught.exception.place), int)
        self.assertEqual(rows, before)

    def unknown(self, rows, title):
        with self.assertRaises(HelpError) as caught:
            read(rows)
        self.assertIs(type(caught.exception), Unknown, rows)
        self.assertEqual(caught.exception.title, title, rows)


class Rows(Refusals):
    def test_an_office_without_rows(self):
        office = read([])
        self.assertIs(type(office), Office)
        self.assertEqual((office.kinds, office.caps), ([], []))

    def test_all_that_rows_tell(self):
        office = read([
            "kind food", "base 100", "each 20 0 17", "rent 1/2 90", "from 1 18 150", "upto 60 0 150", "pay 3/2 18 65",
            "pay 0 0 150", "counts rent 1/3", "counts food 2", "off 10 1/2", "off 20 1/4", "until 700", "round 50 near",
            "kind rent", "cap 300 50 rent food",
        ])
        self.assertIs(type(office), Office)
        food, rent = office.kinds
        self.assertIs(type(food), Kind)
        self.assertEqual((food.title, rent.title), ("food", "rent"))
        self.assertEqual([type(part) for part in food.parts], [Base, Each, Rent])
        self.assertEqual(food.parts[0].amount, 100)
        self.assertEqual((food.parts[1].amount, food.parts[1].low, food.parts[1].high), (20, 0, 17))
        self.assertEqual((food.parts[2].rate, food.parts[2].most), (HALF, 90))
        self.assertEqual([type(term) for term in food.terms], [From, Upto])
        self.assertEqual([(term.many, term.low, term.high) for term in food.terms], [(1, 18, 150), (60, 0, 150)])
        self.assertEqual(food.pays, [((3, 2), 18, 65), ((0, 1), 0, 150)])
        self.assertEqual(food.counts, [("rent", (1, 3)), ("food", (2, 1))])
        self.assertEqual(food.offs, [(10, HALF), (20, (1, 4))])
        self.assertEqual((food.limit, food.unit, food.way), (700, 50, "near"))
        self.assertEqual(len(office.caps), 1)
        self.assertIs(type(office.caps[0]), Cap)
        self.assertEqual((office.caps[0].limit, office.caps[0].each), (300, 50))
        self.assertEqual(office.caps[0].titles, ["rent", "food"])

    def test_a_kind_with_its_row_alone(self):
        kind = read(["kind rent"]).kinds[0]
        self.assertEqual((kind.parts, kind.terms, kind.pays, kind.counts, kind.offs), ([], [], [], [], []))
        self.assertEqual((kind.limit, kind.unit, kind.way), (None, None, "down"))

    def test_noughts_are_told_too(self):
        kind = read(["kind a", "base 0", "until 0", "off 0 0", "from 0 0 0", "pay 0 0 0", "counts a 0"]).kinds[0]
        self.assertEqual((kind.parts[0].amount, kind.limit, kind.offs), (0, 0, [(0, (0, 1))]))
        self.assertEqual((kind.terms[0].many, kind.pays, kind.counts), (0, [((0, 1), 0, 0)], [("a", (0, 1))]))

    def test_the_ways(self):
        for way in ["down", "up", "near"]:
            kind = read(["kind a", f"round 7 {way}"]).kinds[0]
            self.assertEqual((kind.unit, kind.way), (7, way))

    def test_each_word_at_its_bounds_and_beyond(self):
        for sort, words in FORMS.items():
            for at, (good, bad) in enumerate(words):
                written = A_ROW[sort].split(" ")
                for word in good:
                    written[1 + at] = word
                    named = [word] if sort in ("counts", "cap") and words[at] is NAME else []
                    told = ["kind food", " ".join(written)] + [f"kind {name}" for name in named]
                    self.assertEqual(type(read(told)), Office, told)
                for word in bad + ["", " "]:
                    written[1 + at] = word
                    self.refused_at(["kind food", " ".join(written)], 1)
                    self.refused_at(["kind food", "base 1", " ".join(written), "kind rent"], 2)

    def test_a_word_too_few_or_too_many(self):
        for sort, row in A_ROW.items():
            self.refused_at(["kind food", row.rpartition(" ")[0]], 1)
            self.refused_at(["kind food", sort], 1)
            for more in ["0", "1", "a 1", "Zed"]:
                self.refused_at(["kind food", row + " " + more], 1)
            if sort != "cap":
                self.refused_at(["kind food", row + " food"], 1)

    def test_blanks(self):
        for row in A_ROW.values():
            for spoiled in [" " + row, row + " ", "  " + row, row.replace(" ", "  ", 1), row.replace(" ", "\t", 1),
                            row + "\n", "\n" + row, row + "\t", row.replace(" ", "\n", 1), row.replace(" ", "")]:
                self.refused_at(["kind food", spoiled], 1)

    def test_no_row(self):
        for row in ["", " ", "  ", "\n", "food", "kinds a", "Kind a", "KIND a", "a kind", "kind", "# base 1", "base 1 # one",
                    "base,1", "bases 1", "eac 1 0 150", "least 1 0 150", "rounds 5 down", "caps 1 1 food", "0", "1/2",
                    "LIMIT EACH NAME", "title a", "parts 5", "counts", "offs 10 1/2", "~"]:
            self.refused_at([row], 0)
            self.refused_at(["kind food", row], 1)

    def test_low_above_high(self):
        for sort, first in [("each", "5"), ("from", "1"), ("upto", "1"), ("pay", "1/2")]:
            for low, high in [(0, 0), (17, 17), (17, 18), (0, 150), (150, 150), (9, 10), (99, 100)]:
                read(["kind a", f"{sort} {first} {low} {high}"])
            for low, high in [(1, 0), (18, 17), (150, 149), (150, 0), (10, 9), (100, 99)]:
                self.refused_at(["kind a", f"{sort} {first} {low} {high}"], 1)

    def test_numbers_that_are_no_ages_are_not_put_in_order(self):
        office = read(["kind a", "rent 9 3", "off 9 3", "cap 9 3 a"])
        self.assertEqual((office.kinds[0].offs, office.caps[0].limit), ([(9, (3, 1))], 9))

    def test_rows_belong_to_the_nearest_kind_above(self):
        office = read(["kind a", "base 1", "until 5", "kind b", "base 2", "pay 1 0 9", "kind c", "base 3", "round 5 up"])
        self.assertEqual([[part.amount for part in kind.parts] for kind in office.kinds], [[1], [2], [3]])
        self.assertEqual([len(kind.pays) for kind in office.kinds], [0, 1, 0])
        self.assertEqual([kind.limit for kind in office.kinds], [5, None, None])
        self.assertEqual([kind.unit for kind in office.kinds], [None, None, 5])

    def test_a_cap_stands_anywhere_and_ends_nothing(self):
        office = read(["cap 1 1 b", "kind a", "base 1", "cap 2 2 a", "base 2", "off 3 1", "kind b", "cap 3 3 c", "base 3",
                       "kind c"])
        self.assertEqual([[part.amount for part in kind.parts] for kind in office.kinds], [[1, 2], [3], []])
        self.assertEqual([cap.titles for cap in office.caps], [["b"], ["a"], ["c"]])
        self.assertEqual(office.kinds[0].offs, [(3, ONE)])

    def test_rows_of_a_kind_in_any_order(self):
        kind = read(["kind a", "round 5 up", "off 3 1", "upto 3 0 9", "base 1", "until 9", "counts a 1", "rent 1 1",
                     "pay 1 0 9", "from 0 0 0", "off 4 2", "base 2"]).kinds[0]
        self.assertEqual([part.row() for part in kind.parts], ["base 1", "rent 1 1", "base 2"])
        self.assertEqual([term.row() for term in kind.terms], ["upto 3 0 9", "from 0 0 0"])
        self.assertEqual((kind.offs, kind.limit, kind.unit), ([(3, ONE), (4, (2, 1))], 9, 5))

    def test_a_kind_may_be_counted_or_capped_ahead_of_its_row(self):
        office = read(["cap 1 1 c a", "kind a", "counts c 1", "counts a 1/2", "counts b 1", "kind b", "kind c"])
        self.assertEqual(office.kinds[0].counts, [("c", ONE), ("a", HALF), ("b", ONE)])
        self.assertEqual(office.caps[0].titles, ["c", "a"])

    def test_kinds_called_like_the_words_of_rows(self):
        office = read(["kind kind", "counts cap 1", "counts base 1", "kind cap", "kind base", "cap 1 1 cap kind base"])
        self.assertEqual(office.named(), ["kind", "cap", "base"])
        self.assertEqual(office.caps[0].titles, ["cap", "kind", "base"])

    def test_three_hundred_rows(self):
        rows = []
        for title in TITLES:
            rows += [f"kind {title}"] + ["base 1"] * 6 + ["from 0 0 150"] * 6 + ["pay 1 0 150"] * 4
            rows += [f"counts {other} 1/9" for other in TITLES] + [f"off {limit} 1/9" for limit in range(6)]
            rows += ["until 5", "round 5 up"]
        self.assertEqual(len(rows), 264)
        rows += [f"cap 1 1 {title}" for title in TITLES[:4]]
        self.assertEqual(rows_of(read(rows)), rows)


class FirstRefused(Refusals):
    def test_under_no_kind(self):
        for sort in UNDER_A_KIND:
            self.refused_at([A_ROW[sort]], 0)
            self.refused_at([A_ROW[sort], "kind food"], 0)
            self.refused_at(["cap 1 1 food", A_ROW[sort], "kind food"], 1)

    def test_a_ninth_kind(self):
        eight = [f"kind {title}" for title in TITLES]
        self.assertEqual(read(eight).named(), TITLES)
        self.refused_at(eight + ["kind nine"], 8)
        self.refused_at(eight + ["base 1", "kind nine"], 9)
        self.refused_at(eight + ["kind food"], 8)

    def test_a_name_that_a_kind_has_already(self):
        self.refused_at(["kind a", "kind a"], 1)
        self.refused_at(["kind a", "base 1", "kind b", "cap 1 1 b", "kind a", "kind b"], 4)

    def test_a_fifth_cap(self):
        kinds = [f"kind {title}" for title in TITLES]
        caps = [f"cap 1 1 {title}" for title in TITLES]
        self.assertEqual(len(read(kinds + caps[:4]).caps), 4)
        self.refused_at(kinds + caps[:5], 12)
        self.refused_at(caps[:5] + kinds, 4)
        self.refused_at([row for pair in zip(caps, kinds) for row in pair], 8)

    def test_one_row_too_many_of_a_kind(self):
        for sorts, most in [(["base 1", "each 1 0 9", "rent 1 1"], 6), (["from 0 0 9", "upto 9 0 9"], 6),
                            (["pay 1 0 9"], 4), (["until 5", "until 6"], 1), (["round 5 up", "round 5 down"], 1)]:
            for first in range(len(sorts)):
                rows = [sorts[(first + at) % len(sorts)] for at in range(most + 1)]
                read(["kind a"] + rows[:most])
                read(["kind a"] + rows[:most] + ["kind b"] + rows[:most])
                read(["kind a"] + rows[:1] + ["kind b"] + rows[:most])
                self.refused_at(["kind a"] + rows, most + 1)
                self.refused_at(["kind a"] + rows[:most] + ["cap 1 1 a", rows[-1]], most + 2)
                self.refused_at(["kind a"] + rows[:most] + ["kind b"] + rows, 2 * most + 2)

    def test_rows_of_unlike_sorts_are_counted_apart(self):
        rows = ["base 1"] * 6 + ["from 0 0 9"] * 6 + ["pay 1 0 9"] * 4 + [f"off {at} 1" for at in range(6)]
        rows += ["until 5", "round 5 up", "counts a 1"]
        for turn in range(len(rows)):
            turned = rows[turn:] + rows[:turn]
            if [row for row in turned if row[:3] == "off"] == rows[16:22]:
                read(["kind a"] + turned)

    def test_a_seventh_off_row(self):
        offs = [f"off {at * 3} 1/2" for at in range(7)]
        self.assertEqual(len(read(["kind a"] + offs[:6]).kinds[0].offs), 6)
        self.refused_at(["kind a"] + offs, 7)
        self.refused_at(["kind a"] + offs[:6] + ["kind b"] + offs, 14)

    def test_off_rows_rise(self):
        for limit in ["0", "9", "10"]:
            self.refused_at(["kind a", "off 10 1", f"off {limit} 1/2"], 2)
            self.refused_at(["kind a", "off 4 1", "off 10 1", "base 1", "cap 1 1 a", f"off {limit} 1/2"], 5)
        self.refused_at(["kind a", "off 0 1", "off 0 1"], 2)
        self.refused_at(["kind a", "off 10 1", "off 12 1", "off 11 1"], 3)
        self.assertEqual(read(["kind a", "off 10 1", "off 11 1"]).kinds[0].offs, [(10, ONE), (11, ONE)])
        self.assertEqual(read(["kind a", "off 10 1", "kind b", "off 10 1"]).kinds[1].offs, [(10, ONE)])
        self.assertEqual(read(["kind a", "off 10 1", "kind b", "off 0 1"]).kinds[1].offs, [(0, ONE)])

    def test_a_name_counted_already(self):
        self.refused_at(["kind a", "counts a 1", "counts a 1"], 2)
        self.refused_at(["kind a", "counts b 1", "counts a 1", "counts b 1/2", "kind b"], 3)
        self.refused_at(["kind a", "counts zed 1", "counts zed 1"], 2)
        office = read(["kind a", "counts b 1", "kind b", "counts b 1/2"])
        self.assertEqual([kind.counts for kind in office.kinds], [[("b", ONE)], [("b", HALF)]])

    def test_a_cap_that_names_a_kind_twice(self):
        self.refused_at(["kind a", "cap 1 1 a a"], 1)
        self.refused_at(["kind a", "kind b", "kind c", "cap 1 1 a b c b"], 3)
        self.refused_at(["cap 1 1 zed zed"], 0)

    def test_a_kind_that_an_earlier_cap_names(self):
        self.refused_at(["kind a", "cap 1 1 a", "cap 2 2 a"], 2)
        self.refused_at(["kind a", "kind b", "kind c", "cap 1 1 a b", "cap 2 2 c", "cap 3 3 b"], 5)
        self.refused_at(["kind a", "kind b", "kind c", "cap 1 1 a b", "cap 2 2 c a"], 4)
        self.refused_at(["cap 1 1 zed", "cap 2 2 zed"], 1)

    def test_the_first_one_from_the_top(self):
        for rows, place in [
            (["kind a", "kind a", "bad"], 1), (["kind a", "bad", "kind a"], 1), (["bad", "worse"], 0),
            (["kind a", "off 5 1", "off 5 1", "until 5", "until 5"], 2), (["base 1", "kind a", "kind a"], 0),
            (["kind a", "until 5", "until 5", "off 5 1", "off 5 1"], 2), (["cap 1 1 a a", ""], 0),
            (["kind a", "counts a 1", "cap 1 1 a a", "counts a 1"], 2),
        ]:
            self.refused_at(rows, place)

    def test_ahead_of_what_no_row_tells(self):
        self.refused_at(["kind a", "counts zed 1", "cap 1 1 yon", "bad"], 3)
        self.refused_at(["cap 1 1 yon", "kind a", "kind a"], 2)
        self.refused_at(["kind a", "counts zed 1", "counts zed 1"], 2)

    def test_a_refused_row_is_refused_the_same_each_time(self):
        rows = ["kind a", "until 5", "until 6"]
        self.refused_at(rows, 2)
        self.refused_at(rows, 2)
        self.assertEqual(read(rows[:2]).kinds[0].limit, 5)


class Unknowns(Refusals):
    def test_counted_by_a_kind(self):
        self.unknown(["kind a", "counts zed 1"], "zed")
        self.unknown(["kind a", "counts a 1", "counts b 0", "kind c"], "b")

    def test_named_by_a_cap(self):
        self.unknown(["cap 1 1 zed"], "zed")
        self.unknown(["kind a", "kind b", "cap 1 1 b zed a"], "zed")

    def test_the_first_one_row_by_row_and_from_the_left(self):
        self.unknown(["kind a", "counts z 1", "counts b 1"], "z")
        self.unknown(["kind a", "cap 1 1 a z y", "counts b 1"], "z")
        self.unknown(["kind a", "counts b 1", "cap 1 1 a z y"], "b")
        self.unknown(["cap 1 1 y", "kind a", "counts x 1", "kind y", "counts w 1"], "x")
        self.unknown(["cap 1 1 z", "kind a", "counts b 1"], "z")
        self.unknown(["kind a", "counts c 1", "kind b", "counts d 1", "kind c", "cap 1 1 e"], "d")
        self.unknown(["kind a", "kind b", "counts y 1", "kind c", "counts x 1"], "y")

    def test_more_names_than_kinds(self):
        names = ["a", "b", "c", "d", "e", "f", "g", "h", "i", "j"]
        self.unknown(["kind a"] + [f"counts {name} 1" for name in names], "b")
        self.unknown(["kind a", "cap 1 1 " + " ".join(names)], "b")

    def test_a_part_of_a_name_is_none(self):
        self.unknown(["kind food", "counts foo 1"], "foo")
        self.unknown(["kind food", "counts foods 1"], "foods")


def word_pattern(word):
    whole = r"(?:0|[1-9][0-9]*)"
    return {
        "N": "[a-z]{1,8}", "R": f"{whole}(?:/{whole})?", "W": "(?:down|up|near)",
    }.get(word, whole)


SHAPES = {
    "kind": "N", "base": "A", "each": "A L H", "rent": "R A", "from": "M L H", "upto": "M L H", "pay": "R L H",
    "counts": "N R", "off": "A R", "until": "A", "round": "U W", "cap": "A A N",
}
GROUPS = {"base": "part", "each": "part", "rent": "part", "from": "term", "upto": "term"}
MOST = {"part": 6, "term": 6, "pay": 4, "off": 6, "until": 1, "round": 1}


def is_rate(word):
    top, slash, bottom = word.partition("/")
    if not slash:
        return int(top) <= 9999
    return int(top) <= 9999 and 2 <= int(bottom) <= 9999 and gcd(int(top), int(bottom)) == 1


def is_row(row):
    sort = row.split(" ")[0]
    shape = SHAPES.get(sort)
    if shape is None:
        return False
    pattern = " ".join(word_pattern(word) for word in shape.split(" ")) + ("(?: [a-z]{1,8})*" if sort == "cap" else "")
    if not re.fullmatch(f"{sort} {pattern}", row):
        return False
    words = dict(zip(shape.split(" "), row.split(" ")[1:]))
    mosts = {"A": 10 ** 9, "U": 10 ** 9, "M": 60, "L": 150, "H": 150}
    if any(int(row.split(" ")[1 + at]) > mosts[word] for at, word in enumerate(shape.split(" ")) if word in mosts):
        return False
    return not ("L" in words and int(words["L"]) > int(words["H"])) and words.get("U") != "0" and (
        "R" not in words or is_rate(words["R"]))


def reckoned(rows):
    """What reading the rows comes to, reckoned apart: the kinds' titles, a place, or a title that no row tells."""
    for place, row in enumerate(rows):
        above = [other.split(" ") for other in rows[:place]]
        words = row.split(" ")
        kinds = [at for at, other in enumerate(above) if other[0] == "kind"]
        capped = [name for other in above if other[0] == "cap" for name in other[3:]]
        own = [other for other in above[kinds[-1]:] if other[0] != "cap"] if kinds else []
        group = GROUPS.get(words[0], words[0])
        alike = [other for other in own if GROUPS.get(other[0], other[0]) == group]
        refused = not is_row(row)
        if words[0] == "kind" and not refused:
            refused = len(kinds) >= 8 or words[1] in [above[at][1] for at in kinds]
        elif words[0] == "cap" and not refused:
            names = capped + words[3:]
            refused = len([other for other in above if other[0] == "cap"]) >= 4 or len(set(names)) < len(names)
        elif not refused:
            refused = not kinds or len(alike) >= MOST.get(group, 99)
            refused = refused or (group == "off" and alike != [] and int(words[1]) <= int(alike[-1][1]))
            refused = refused or (group == "counts" and words[1] in [other[1] for other in alike])
        if refused:
            return place
    told = [row.split(" ")[1] for row in rows if row.startswith("kind ")]
    asked = [(row.split(" ")[1:2] if row.startswith("counts ") else row.split(" ")[3:]) for row in rows
             if row.startswith(("counts ", "cap "))]
    missing = [name for names in asked for name in names if name not in told]
    return missing[0] if missing else told


def answered(rows):
    try:
        return read(rows).named()
    except NoRow as refusal:
        return refusal.place
    except Unknown as refusal:
        return refusal.title


def in_another_order(chance, rows):
    """The same rows with each kind's own ones and the caps moved about, sorts in their order among themselves."""
    caps = [row for row in rows if row.startswith("cap ")]
    moved = []
    block = []
    for row in [row for row in rows if row not in caps] + ["kind "]:
        if row.startswith("kind "):
            sorts = {}
            for own in block[1:]:
                sorts.setdefault(GROUPS.get(own.split(" ")[0], own.split(" ")[0]), []).append(own)
            tags = [sort for sort, owns in sorts.items() for own in owns]
            chance.shuffle(tags)
            moved += block[:1] + [sorts[tag].pop(0) for tag in tags]
            block = []
        block.append(row)
    places = sorted(chance.randint(0, len(moved)) for cap in caps)
    for place, cap in reversed(list(zip(places, caps))):
        moved.insert(place, cap)
    return moved


def spoiled(chance, rows):
    rows = list(rows)
    for turn in range(chance.randint(1, 3)):
        at = chance.randrange(len(rows)) if rows else 0
        row = rows[at] if rows else "kind food"
        words = row.split(" ")
        word = chance.randrange(len(words))
        sort = chance.randrange(6)
        if sort == 0:
            rows.insert(chance.randint(0, len(rows)), row)
        elif sort == 1 and rows:
            rows.pop(at)
        elif sort == 2:
            rows[at:at + 1] = [row.replace(" ", "  ", 1)]
        elif sort == 3:
            words[word] = chance.choice(["0", "1", "60", "61", "150", "151", "2/4", "1/2", "food", "zed", "", "999999999999"])
            rows[at:at + 1] = [" ".join(words)]
        elif sort == 4:
            rows.insert(chance.randint(0, len(rows)), chance.choice(list(A_ROW.values())))
        else:
            chance.shuffle(rows)
    return rows


class Told(Refusals):
    def test_the_order_of_the_rows(self):
        rows = ["cap 9 8 b", "kind a", "round 5 up", "until 7", "off 3 1", "counts b 1", "counts a 3/4", "pay 1/2 0 9",
                "pay 0 0 9", "upto 3 0 9", "from 1 0 9", "rent 1/2 5", "base 1", "each 1 2 3", "off 4 0", "cap 1 0 c a",
                "base 0", "kind b", "kind c", "off 0 9999/9998"]
        self.assertEqual(rows_of(read(rows)), [
            "kind a", "rent 1/2 5", "base 1", "each 1 2 3", "base 0", "upto 3 0 9", "from 1 0 9", "pay 1/2 0 9",
            "pay 0 0 9", "counts b 1", "counts a 3/4", "off 3 1", "off 4 0", "until 7", "round 5 up", "kind b", "kind c",
            "off 0 9999/9998", "cap 9 8 b", "cap 1 0 c a",
        ])

    def test_of_no_rows(self):
        self.assertEqual(rows_of(read([])), [])
        self.assertEqual(rows_of(read(["kind a"])), ["kind a"])

    def test_until_and_round_by_themselves(self):
        for rows in [["kind a", "until 0"], ["kind a", "round 1 down"], ["kind a", "until 1000000000", "round 7 near"]]:
            self.assertEqual(rows_of(read(rows)), rows)

    def test_of_an_office_that_was_made(self):
        food = Kind("food", [Base(5), Rent(HALF, 9)], [Upto(3, 0, 9)], [(HALF, 0, 9)], [("rent", ONE)], [(3, (1, 4))], 7, 5)
        rows = rows_of(Office([food, Kind("rent", [], [], [], [], [])], [Cap(1, 2, ["rent", "food"])]))
        self.assertEqual(rows, ["kind food", "base 5", "rent 1/2 9", "upto 3 0 9", "pay 1/2 0 9", "counts rent 1",
                                "off 3 1/4", "until 7", "round 5 down", "kind rent", "cap 1 2 rent food"])
        self.assertEqual(rows_of(read(rows)), rows)

    def test_a_way_without_a_unit_is_not_told(self):
        self.assertEqual(rows_of(Office([Kind("a", [], [], [], [], [], None, None, "up")], [])), ["kind a"])

    def test_read_again_they_tell_the_same(self):
        chance = random.Random(22)
        for turn in range(150):
            rows = random_rows(chance)
            moved = in_another_order(chance, rows)
            self.assertEqual(sorted(moved), sorted(rows))
            self.assertEqual(rows_of(read(rows)), rows)
            told = rows_of(read(moved))
            self.assertEqual(told, rows)
            self.assertEqual(rows_of(read(told)), told)

    def test_spoiled_rows_as_reckoned_apart(self):
        chance = random.Random(23)
        seen = {int: 0, str: 0, list: 0}
        for turn in range(1500):
            rows = spoiled(chance, random_rows(chance)[:chance.choice([3, 8, 300])])
            wanted = reckoned(rows)
            seen[type(wanted)] += 1
            self.assertEqual(answered(rows), wanted, rows)
        self.assertTrue(min(seen.values()) > 30, seen)


class Own(unittest.TestCase):
    ROWS = ["kind a", "base 1", "from 0 0 9", "pay 1 0 9", "counts a 1", "off 3 1", "cap 1 1 a"]

    def test_nothing_handed_in_is_changed(self):
        rows = list(self.ROWS)
        office = read(rows)
        self.assertEqual(rows, self.ROWS)
        rows_of(office)
        self.assertEqual(rows_of(office), self.ROWS)

    def test_what_is_done_to_the_rows_behind_the_call(self):
        rows = list(self.ROWS)
        office = read(rows)
        rows.clear()
        rows.append("kind b")
        self.assertEqual(rows_of(office), self.ROWS)

    def test_what_is_told_is_the_asker_s_own(self):
        office = read(self.ROWS)
        told = rows_of(office)
        told.clear()
        again = rows_of(office)
        self.assertEqual(again, self.ROWS)
        rows_of(office).append("bad")
        self.assertEqual(again, self.ROWS)

    def test_two_offices_of_the_same_rows_are_apart(self):
        one, other = read(self.ROWS), read(self.ROWS)
        self.assertIsNot(one, other)
        for mine, others in [(one.kinds, other.kinds), (one.caps, other.caps), (one.kinds[0].parts, other.kinds[0].parts),
                             (one.kinds[0].offs, other.kinds[0].offs), (one.caps[0].titles, other.caps[0].titles)]:
            self.assertIsNot(mine, others)


if __name__ == "__main__":
    unittest.main()
