import copy
import random
import unittest
from fractions import Fraction

from doletaper.bends import bands, bend_at
from doletaper.errors import HelpError, NoBend, Unknown
from doletaper.kinds import Cap, Kind, Office
from doletaper.parts import Base, Each, From, Part, Rent, Term, Upto
from support import (
    BOB, DEE, EVERYWHERE_NOUGHT, HALF, HOME, HOMES, NOUGHT, OLD, ONE, bare, bend_fault, is_fraction, number_of, pair_of,
    value_at,
)


def handed_lists():
    return [
        [Base(100), Rent(HALF, 50)], [From(1, 0, 150), Upto(9, 0, 17)], [(HALF, 0, 150), (ONE, 18, 150)],
        [("rent", HALF), ("food", ONE)], [(10, HALF), (20, (1, 4))],
    ]


class KindFields(unittest.TestCase):
    def test_by_the_names_of_what_is_handed_in(self):
        parts, terms, pays, counts, offs = handed_lists()
        kind = Kind("food", parts, terms, pays, counts, offs, 700, 5, "near")
        self.assertEqual(kind.title, "food")
        self.assertEqual(kind.parts, parts)
        self.assertEqual(kind.terms, terms)
        self.assertEqual(kind.pays, pays)
        self.assertEqual(kind.counts, counts)
        self.assertEqual(kind.offs, offs)
        self.assertEqual((kind.limit, kind.unit, kind.way), (700, 5, "near"))

    def test_without_limit_unit_and_way(self):
        kind = Kind("food", [], [], [], [], [])
        self.assertIsNone(kind.limit)
        self.assertIsNone(kind.unit)
        self.assertEqual(kind.way, "down")

    def test_limit_unit_and_way_by_name(self):
        kind = bare(way="up", unit=7, limit=0)
        self.assertEqual((kind.limit, kind.unit, kind.way), (0, 7, "up"))
        self.assertEqual((bare(limit=5).unit, bare(unit=5).limit), (None, None))
        self.assertEqual(bare(unit=5).way, "down")

    def test_fields_are_lists(self):
        kind = bare()
        for field in [kind.parts, kind.terms, kind.pays, kind.counts, kind.offs]:
            self.assertIs(type(field), list)


class Full(unittest.TestCase):
    def test_the_sum_of_the_worths(self):
        kind = bare(parts=[Base(100), Each(7, 17, 40), Rent(HALF, 500), Base(3), Part()])
        self.assertEqual(kind.full_of(HOME), pair_of(Fraction(100 + 21 + 3) + Fraction(325, 2)))
        self.assertEqual(kind.full_of([]), (103, 1))
        self.assertEqual(kind.full_of([BOB, DEE]), (110, 1))

    def test_equal_parts_are_counted_each(self):
        part = Base(5)
        self.assertEqual(bare(parts=[part, part, Base(5)]).full_of([]), (15, 1))

    def test_in_lowest_terms(self):
        kind = bare(parts=[Rent((1, 3), 10 ** 9), Rent((2, 3), 10 ** 9)])
        self.assertEqual(kind.full_of(HOME), (325, 1))
        self.assertEqual(bare(parts=[Rent((1, 3), 10 ** 9), Rent((1, 6), 10 ** 9)]).full_of(HOME), (325, 2))

    def test_of_nothing(self):
        for home in HOMES:
            self.assertEqual(bare().full_of(home), NOUGHT)

    def test_nothing_else_counts(self):
        kind = Kind("food", [Base(9)], [From(60, 0, 0)], [(ONE, 0, 150)], [("food", ONE)], [(0, ONE)], 0, 50, "up")
        for home in HOMES:
            self.assertEqual(kind.full_of(home), (9, 1))


class May(unittest.TestCase):
    def test_where_all_terms_are_met(self):
        adult, few, never = From(1, 18, 150), Upto(2, 0, 150), From(9, 0, 150)
        for terms, wanted in [
            ([], [True] * 5),
            ([Term()], [True] * 5),
            ([adult], [False, True, False, True, True]),
            ([few], [True, True, True, False, False]),
            ([adult, few], [False, True, False, False, False]),
            ([few, adult], [False, True, False, False, False]),
            ([adult, few, never], [False] * 5),
            ([never, adult], [False] * 5),
            ([Term(), adult, Term()], [False, True, False, True, True]),
        ]:
            told = [bare(terms=terms).may_have(home) for home in HOMES]
            self.assertEqual(told, wanted)
            self.assertTrue(all(type(one) is bool for one in told))

    def test_by_its_terms_alone(self):
        kind = Kind("food", [], [], [(ONE, 0, 150)], [], [(0, ONE)], 0, 5, "up")
        for home in HOMES:
            self.assertIs(kind.may_have(home), True)


class Owns(unittest.TestCase):
    def test_for_each_pay_row_the_rate_times_the_pay(self):
        kind = bare(pays=[
            (HALF, 18, 150), (ONE, 0, 17), ((2, 3), 17, 18), (ONE, 19, 39), (NOUGHT, 0, 150), ((3, 1), 40, 40),
        ])
        self.assertEqual(kind.owns(HOME), [(1005, 2), (70, 1), (50, 1), NOUGHT, NOUGHT, (3000, 1)])
        self.assertEqual(kind.owns([]), [NOUGHT] * 6)
        self.assertTrue(all(is_fraction(own) for own in kind.owns(HOME)))

    def test_in_their_order_and_alike_ones_each(self):
        self.assertEqual(bare(pays=[(ONE, 0, 17), (HALF, 0, 17), (ONE, 0, 17)]).owns(HOME), [(70, 1), (35, 1), (70, 1)])
        self.assertEqual(bare(pays=[(HALF, 0, 17), (ONE, 0, 17)]).owns(HOME), [(35, 1), (70, 1)])

    def test_no_rows(self):
        for home in HOMES:
            self.assertEqual(bare().owns(home), [])
            self.assertIs(type(bare().owns(home)), list)

    def test_the_first_age_above_the_second(self):
        self.assertEqual(bare(pays=[(ONE, 18, 17)]).owns(HOME), [NOUGHT])

    def test_at_the_bounds(self):
        self.assertEqual(bare(pays=[((9999, 1), 150, 150), ((1, 9999), 0, 150)]).owns([OLD]),
                         [(9999 * 10 ** 9, 1), (10 ** 9, 9999)])


class Off(unittest.TestCase):
    def test_the_bands_of_the_off_rows(self):
        told = bare(offs=[(10, HALF), (20, (1, 4))]).taken_off()
        self.assertEqual(told, [(NOUGHT, NOUGHT, NOUGHT), ((10, 1), NOUGHT, HALF), ((20, 1), (5, 1), (1, 4))])
        self.assertEqual(bend_at(told, (30, 1)), (15, 2))

    def test_no_rows(self):
        self.assertEqual(bare().taken_off(), EVERYWHERE_NOUGHT)

    def test_over_many(self):
        chance = random.Random(19)
        for turn in range(60):
            limits = sorted(chance.sample(range(40), chance.randint(0, 6)))
            offs = [(limit, pair_of(Fraction(chance.randint(0, 3), chance.randint(1, 3)))) for limit in limits]
            told = bare(offs=offs).taken_off()
            self.assertIsNone(bend_fault(told))
            self.assertEqual(told, bands(offs))
            ends = limits[1:] + [10 ** 6]
            for place in [Fraction(0), Fraction(7, 2), Fraction(20), Fraction(41)]:
                parts = [number_of(off[1]) * max(min(place, end) - off[0], 0) for off, end in zip(offs, ends)]
                self.assertEqual(value_at(told, place), sum(parts))

    def test_rows_that_bands_refuse(self):
        for offs in [[(10, HALF), (10, ONE)], [(10, HALF), (5, ONE)], [(-1, HALF)]]:
            with self.assertRaises(NoBend):
                bare(offs=offs).taken_off()

    def test_the_greatest_rate(self):
        for rates, wanted in [
            ([HALF], HALF), ([HALF, (1, 4)], HALF), ([(1, 4), HALF], HALF), ([(1, 4), (3, 2), HALF], (3, 2)),
            ([NOUGHT], NOUGHT), ([NOUGHT, (1, 9999), NOUGHT], (1, 9999)), ([HALF, HALF], HALF),
            ([(2, 3), (3, 4), (4, 5)], (4, 5)), ([(4, 5), (3, 4), (2, 3)], (4, 5)), ([(9999, 1)], (9999, 1)),
            ([(1, 3), (2, 7)], (1, 3)), ([(2, 7), (1, 3)], (1, 3)),
        ]:
            offs = [(place * 10, rate) for place, rate in enumerate(rates)]
            self.assertEqual(bare(offs=offs).greatest_rate(), wanted)

    def test_the_greatest_rate_of_no_rows(self):
        self.assertEqual(bare().greatest_rate(), NOUGHT)

    def test_the_greatest_rate_is_of_the_off_rows_alone(self):
        kind = bare(parts=[Rent((9, 1), 9)], pays=[((8, 1), 0, 150)], counts=[("food", (7, 1))], offs=[(100, HALF)])
        self.assertEqual(kind.greatest_rate(), HALF)

    def test_rates_below_nought(self):
        self.assertEqual(bare(offs=[(0, (-1, 2)), (9, (-1, 3))]).greatest_rate(), (-1, 3))


class Amount(unittest.TestCase):
    def test_without_a_unit_it_stays(self):
        for left in [NOUGHT, HALF, (75, 2), (10 ** 9, 1), (10 ** 12 + 1, 9999)]:
            for way in ["down", "up", "near"]:
                self.assertEqual(bare(way=way).amount_from(left), left)
                self.assertEqual(bare(limit=3, way=way).amount_from(left), left)

    def test_by_unit_and_way(self):
        for left, down, up, near in [
            ((47, 1), 0, 50, 50), ((24, 1), 0, 50, 0), ((25, 1), 0, 50, 50), ((149, 2), 50, 100, 50),
            ((75, 1), 50, 100, 100), ((100, 1), 100, 100, 100), (NOUGHT, 0, 0, 0), ((1, 9999), 0, 50, 0),
        ]:
            self.assertEqual(bare(unit=50).amount_from(left), (down, 1))
            self.assertEqual(bare(unit=50, way="down").amount_from(left), (down, 1))
            self.assertEqual(bare(unit=50, way="up").amount_from(left), (up, 1))
            self.assertEqual(bare(unit=50, way="near").amount_from(left), (near, 1))

    def test_the_least_and_the_greatest_unit(self):
        self.assertEqual(bare(unit=1).amount_from((7, 2)), (3, 1))
        self.assertEqual(bare(unit=1, way="near").amount_from((7, 2)), (4, 1))
        self.assertEqual(bare(unit=10 ** 9).amount_from((10 ** 9 - 1, 1)), NOUGHT)
        self.assertEqual(bare(unit=10 ** 9, way="up").amount_from(ONE), (10 ** 9, 1))


class Caps(unittest.TestCase):
    def test_fields(self):
        cap = Cap(100, 7, ["food", "rent"])
        self.assertEqual((cap.limit, cap.each, cap.titles), (100, 7, ["food", "rent"]))
        named = Cap(titles=["food"], each=7, limit=100)
        self.assertEqual((named.limit, named.each, named.titles), (100, 7, ["food"]))

    def test_room_is_the_limit_and_the_each_for_every_person(self):
        for limit, each in [(0, 0), (100, 0), (0, 7), (100, 7), (10 ** 9, 10 ** 9)]:
            for home, many in zip(HOMES, [0, 1, 2, 3, 5]):
                told = Cap(limit, each, ["food"]).room_for(home)
                self.assertTrue(is_fraction(told))
                self.assertEqual(told, (limit + each * many, 1))


class Offices(unittest.TestCase):
    def setUp(self):
        self.kinds = [bare(title="rent"), bare(title="food"), bare(title="abc")]
        self.caps = [Cap(1, 2, ["food"]), Cap(3, 4, ["rent"])]
        self.office = Office(self.kinds, self.caps)

    def test_fields_in_order(self):
        self.assertEqual(self.office.kinds, self.kinds)
        self.assertEqual(self.office.caps, self.caps)
        named = Office(caps=self.caps, kinds=self.kinds)
        self.assertEqual((named.kinds, named.caps), (self.kinds, self.caps))

    def test_the_kind_of_a_title(self):
        for kind in self.kinds:
            self.assertIs(self.office.kind(kind.title), kind)

    def test_a_title_that_no_kind_bears(self):
        for title in ["zed", "", "foo", "foods", "Food", "a b"]:
            for office in [self.office, Office([], []), Office([], self.caps)]:
                with self.assertRaises(HelpError) as caught:
                    office.kind(title)
                self.assertIs(type(caught.exception), Unknown)
                self.assertEqual(caught.exception.title, title)

    def test_the_titles_of_all_kinds_in_order(self):
        self.assertEqual(self.office.named(), ["rent", "food", "abc"])
        self.assertEqual(Office(self.kinds[::-1], []).named(), ["abc", "food", "rent"])

    def test_without_kinds(self):
        self.assertEqual(Office([], []).named(), [])
        self.assertEqual((Office([], []).kinds, Office([], []).caps), ([], []))


class Own(unittest.TestCase):
    def told_by(self, kind):
        return copy.deepcopy([
            [part.row() for part in kind.parts], [term.row() for term in kind.terms], kind.pays, kind.counts, kind.offs,
            kind.full_of(HOME), kind.may_have(HOME), kind.owns(HOME), kind.taken_off(), kind.greatest_rate(),
            kind.amount_from((75, 2)),
        ])

    def test_nothing_handed_in_is_changed(self):
        lists = handed_lists()
        before = [list(one) for one in lists]
        home = copy.deepcopy(HOME)
        kind = Kind("food", *lists, 700, 5, "near")
        self.told_by(kind)
        kind.owns(home), kind.full_of(home), kind.may_have(home)
        self.assertEqual(lists, before)
        self.assertEqual(home, HOME)

    def test_what_is_done_to_what_was_handed_to_a_kind_changes_nothing(self):
        for spoil in [lambda things: things.clear(), lambda things: things.reverse(), lambda things: things.pop(),
                      lambda things: things.append(things[0])]:
            lists = handed_lists()
            kind = Kind("food", *lists, 700, 5, "near")
            before = self.told_by(kind)
            for one in lists:
                spoil(one)
            self.assertEqual(self.told_by(kind), before)

    def test_what_is_done_to_what_a_kind_told_changes_nothing(self):
        kind = Kind("food", *handed_lists())
        before = self.told_by(kind)
        kind.owns(HOME).clear()
        kind.taken_off().clear()
        kind.taken_off().append((NOUGHT, ONE, ONE))
        self.assertEqual(self.told_by(kind), before)
        empty = bare()
        empty.taken_off().clear()
        empty.owns(HOME).append(ONE)
        self.assertEqual((empty.taken_off(), empty.owns(HOME)), (EVERYWHERE_NOUGHT, []))

    def test_what_was_told_stays_whatever_is_asked_later(self):
        kind = Kind("food", *handed_lists())
        owns, off = kind.owns(HOME), kind.taken_off()
        before = copy.deepcopy([owns, off])
        for home in HOMES:
            kind.owns(home).append(ONE)
            kind.taken_off().append(None)
            kind.full_of(home)
        self.assertEqual([owns, off], before)

    def test_two_kinds_made_of_the_same_lists_are_apart(self):
        lists = handed_lists()
        one, other = Kind("food", *lists), Kind("rent", *lists)
        for mine, others in [(one.parts, other.parts), (one.terms, other.terms), (one.pays, other.pays),
                             (one.counts, other.counts), (one.offs, other.offs)]:
            self.assertIsNot(mine, others)

    def test_the_titles_of_a_cap_are_copied(self):
        titles = ["food", "rent"]
        cap = Cap(1, 2, titles)
        cap.room_for(HOME)
        self.assertEqual(titles, ["food", "rent"])
        titles.clear()
        self.assertEqual(cap.titles, ["food", "rent"])

    def test_the_lists_of_an_office_are_copied(self):
        kinds, caps = [bare(title="rent"), bare(title="food")], [Cap(1, 2, ["food"])]
        handed_kinds, handed_caps = list(kinds), list(caps)
        office = Office(handed_kinds, handed_caps)
        office.kind("food")
        office.named()
        self.assertEqual((handed_kinds, handed_caps), (kinds, caps))
        handed_kinds.clear()
        handed_caps.clear()
        self.assertEqual((office.kinds, office.caps), (kinds, caps))
        self.assertEqual(office.named(), ["rent", "food"])
        self.assertIs(office.kind("food"), kinds[1])

    def test_the_titles_that_an_office_told_are_the_asker_s_own(self):
        office = Office([bare(title="rent"), bare(title="food")], [])
        told = office.named()
        told.clear()
        self.assertEqual(office.named(), ["rent", "food"])
        again = office.named()
        office.named().append("zed")
        self.assertEqual(again, ["rent", "food"])
        with self.assertRaises(Unknown):
            office.kind("zed")
        self.assertEqual(office.named(), ["rent", "food"])


if __name__ == "__main__":
    unittest.main()
