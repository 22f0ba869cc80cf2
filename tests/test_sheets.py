import copy
import random
import unittest
from fractions import Fraction

from doletaper.kinds import Kind
from doletaper.parts import Base, Each, From, Part, Rent, Term, Upto
from doletaper.reading import read, rows_of
from doletaper.sheets import falling, sheet
from support import (
    ANN, BOB, CYD, DEE, EVERYWHERE_NOUGHT, HALF, HOME, HOMES, NOUGHT, OLD, ONE, TITLES, bare, bend_fault, is_fraction,
    number_of, pair_of, probes, random_home, random_rows, value_at,
)

NAMES = ["title", "worths", "full", "owns", "others", "counted", "may", "taken", "left", "amount"]
FOOD = Kind(
    "food", [Base(500), Each(20, 0, 17), Rent(HALF, 90)], [From(1, 18, 150)], [(HALF, 18, 150), (ONE, 0, 17)],
    [("rent", (1, 3)), ("abc", (3, 2))], [(100, HALF), (600, (1, 4))], None, 50, "near",
)


def told_by(kind, home, told):
    return dict(zip(NAMES, sheet(kind, home, told)))


def all_are_fractions(one):
    lists = one["worths"] + one["owns"] + one["others"]
    return all(is_fraction(amount) for amount in lists + [one[name] for name in NAMES if name not in (
        "title", "worths", "owns", "others", "may")])


class Sheets(unittest.TestCase):
    def test_the_whole(self):
        # counted: 1005 / 2 + 70 + 10 + 3 / 2 = 584; taken: (584 - 100) / 2 = 242; left: 610 - 242 = 368
        self.assertEqual(sheet(FOOD, HOME, {"rent": (30, 1), "abc": ONE}), (
            "food", [(500, 1), (20, 1), (90, 1)], (610, 1), [(1005, 2), (70, 1)], [(10, 1), (3, 2)], (584, 1), True,
            (242, 1), (368, 1), (350, 1),
        ))

    def test_its_kinds(self):
        told = sheet(FOOD, HOME, {"rent": (30, 1), "abc": ONE})
        self.assertIs(type(told), tuple)
        self.assertEqual([type(part) for part in told], [str, list, tuple, list, list, tuple, bool, tuple, tuple, tuple])

    def test_of_a_kind_with_nothing(self):
        for home in HOMES:
            self.assertEqual(sheet(bare(), home, {}),
                             ("food", [], NOUGHT, [], [], NOUGHT, True, NOUGHT, NOUGHT, NOUGHT))

    def test_the_title(self):
        self.assertEqual(sheet(bare(title="zed"), [], {})[0], "zed")

    def test_worths_part_by_part_and_full_their_sum(self):
        kind = bare(parts=[Rent((1, 3), 100), Base(7), Part(), Each(5, 18, 40), Base(7)])
        one = told_by(kind, HOME, {})
        self.assertEqual(one["worths"], [(100, 1), (7, 1), NOUGHT, (10, 1), (7, 1)])
        self.assertEqual(one["full"], (124, 1))
        one = told_by(kind, [CYD, DEE], {})
        self.assertEqual((one["worths"][0], one["full"]), ((25, 3), (25 + 3 * 19, 3)))

    def test_owns_for_each_pay_row_in_order(self):
        kind = bare(pays=[(ONE, 0, 17), (HALF, 18, 150), (ONE, 19, 39), (ONE, 0, 17)])
        self.assertEqual(told_by(kind, HOME, {})["owns"], [(70, 1), (1005, 2), NOUGHT, (70, 1)])
        self.assertEqual(told_by(kind, HOME, {})["counted"], (1285, 2))

    def test_others_for_each_counts_row_in_order(self):
        kind = bare(counts=[("zed", HALF), ("abc", (2, 1)), ("food", NOUGHT), ("rent", (1, 7))])
        told = {"abc": (3, 4), "zed": (9, 1), "rent": NOUGHT, "food": (5, 1)}
        self.assertEqual(told_by(kind, HOME, told)["others"], [(9, 2), (3, 2), NOUGHT, NOUGHT])
        self.assertEqual(told_by(kind, HOME, told)["counted"], (6, 1))

    def test_counted_is_the_sum_of_owns_and_others(self):
        kind = bare(pays=[((1, 3), 0, 17)], counts=[("rent", (1, 6))])
        self.assertEqual(told_by(kind, HOME, {"rent": (4, 1)})["counted"], (24, 1))
        self.assertEqual(told_by(kind, [DEE], {"rent": ONE})["counted"], (1, 6))

    def test_more_may_be_told_than_is_counted(self):
        kind = bare(counts=[("rent", ONE)])
        one = sheet(kind, HOME, {"zed": (99, 1), "rent": HALF, "food": (7, 1)})
        self.assertEqual(one, sheet(kind, HOME, {"rent": HALF}))

    def test_a_kind_that_counts_itself(self):
        kind = bare(parts=[Base(100)], counts=[("food", HALF)], offs=[(10, ONE)])
        one = told_by(kind, [], {"food": (50, 1)})
        self.assertEqual((one["others"], one["counted"], one["taken"], one["amount"]), ([(25, 1)], (25, 1), (15, 1), (85, 1)))

    def test_taken_is_what_the_bands_come_to_at_counted(self):
        for pay, wanted in [(0, 0), (10, 0), (11, Fraction(1, 2)), (20, 5), (21, Fraction(21, 4)), (30, Fraction(15, 2))]:
            kind = bare(parts=[Base(9)], pays=[(ONE, 0, 150)], offs=[(10, HALF), (20, (1, 4))])
            one = told_by(kind, [("a", 5, pay, 0)], {})
            self.assertEqual((one["counted"], one["taken"]), ((pay, 1), pair_of(wanted)))

    def test_parts_of_a_coin_alike(self):
        kind = bare(counts=[("rent", ONE)], offs=[(10, HALF)])
        self.assertEqual(told_by(kind, [], {"rent": (31, 3)})["taken"], (1, 6))
        self.assertEqual(told_by(kind, [], {"rent": (29, 3)})["taken"], NOUGHT)

    def test_left_is_full_less_taken_never_below_nought(self):
        for full, wanted in [(100, 70), (31, 1), (30, 0), (29, 0), (0, 0)]:
            kind = bare(parts=[Base(full)], counts=[("rent", ONE)], offs=[(0, (3, 2))])
            one = told_by(kind, HOME, {"rent": (20, 1)})
            self.assertEqual((one["taken"], one["left"], one["amount"]), ((30, 1), (wanted, 1), (wanted, 1)))
            self.assertIs(one["may"], True)

    def test_amount_is_left_rounded_where_there_is_a_unit(self):
        for unit, way, wanted in [(None, "up", (75, 2)), (25, "down", (25, 1)), (25, "up", (50, 1)), (25, "near", (50, 1)),
                                  (1, "down", (37, 1)), (1, "up", (38, 1)), (10 ** 9, "up", (10 ** 9, 1))]:
            kind = bare(parts=[Base(50)], counts=[("rent", ONE)], offs=[(0, ONE)], unit=unit, way=way)
            one = told_by(kind, [], {"rent": (25, 2)})
            self.assertEqual((one["left"], one["amount"]), ((75, 2), wanted))

    def test_nought_is_rounded_to_nought(self):
        for way in ["down", "up", "near"]:
            kind = bare(parts=[Base(5)], counts=[("rent", ONE)], offs=[(0, ONE)], unit=50, way=way)
            self.assertEqual(told_by(kind, [], {"rent": (9, 1)})["amount"], NOUGHT)


class May(unittest.TestCase):
    def test_where_all_terms_are_met(self):
        for terms, home, wanted in [
            ([], [], True), ([Term()], [], True), ([From(1, 18, 150)], [BOB], False), ([From(1, 18, 150)], [CYD], True),
            ([From(1, 18, 150), Upto(1, 0, 150)], [ANN], True), ([From(1, 18, 150), Upto(1, 0, 150)], [ANN, BOB], False),
            ([Upto(0, 0, 17), From(1, 18, 150)], [BOB, CYD], False),
        ]:
            self.assertIs(told_by(bare(terms=terms), home, {})["may"], wanted)

    def test_where_counted_is_not_above_the_limit(self):
        for counted, wanted in [((99, 1), True), ((100, 1), True), ((101, 1), False), ((299, 3), True), ((301, 3), False),
                                (NOUGHT, True), ((10 ** 12 + 1, 10 ** 10), False)]:
            kind = bare(parts=[Base(9)], counts=[("rent", ONE)], limit=100)
            one = told_by(kind, [], {"rent": counted})
            self.assertIs(one["may"], wanted)
            self.assertEqual(one["left"], (9, 1) if wanted else NOUGHT)

    def test_a_limit_of_nought(self):
        kind = bare(parts=[Base(9)], counts=[("rent", ONE)], limit=0)
        self.assertIs(told_by(kind, [], {"rent": NOUGHT})["may"], True)
        self.assertIs(told_by(kind, [], {"rent": (1, 10 ** 9)})["may"], False)

    def test_owns_and_others_together_are_held_against_the_limit(self):
        kind = bare(pays=[(ONE, 0, 150)], counts=[("rent", ONE)], limit=100)
        self.assertIs(told_by(kind, [BOB], {"rent": (30, 1)})["may"], True)
        self.assertIs(told_by(kind, [BOB], {"rent": (31, 1)})["may"], False)

    def test_without_a_limit(self):
        kind = bare(pays=[((9999, 1), 0, 150)])
        self.assertIs(told_by(kind, [OLD], {})["may"], True)

    def test_both_are_asked(self):
        for term, limit, wanted in [(Term(), 100, True), (From(9, 0, 150), 100, False), (Term(), 50, False),
                                    (From(9, 0, 150), 50, False)]:
            kind = bare(parts=[Base(9)], terms=[term], pays=[(ONE, 0, 150)], limit=limit)
            self.assertIs(told_by(kind, [BOB], {})["may"], wanted)

    def test_all_else_is_told_where_it_is_false(self):
        wanted = told_by(FOOD, HOME, {"rent": (30, 1), "abc": ONE})
        never = Kind("food", FOOD.parts, [From(60, 0, 150)], FOOD.pays, FOOD.counts, FOOD.offs, None, 50, "up")
        above = Kind("food", FOOD.parts, FOOD.terms, FOOD.pays, FOOD.counts, FOOD.offs, 583, 50, "up")
        for kind in [never, above]:
            one = told_by(kind, HOME, {"rent": (30, 1), "abc": ONE})
            self.assertIs(one["may"], False)
            self.assertEqual((one["left"], one["amount"]), (NOUGHT, NOUGHT))
            for name in ["title", "worths", "full", "owns", "others", "counted", "taken"]:
                self.assertEqual(one[name], wanted[name])


class ManySheets(unittest.TestCase):
    def test_as_reckoned_apart(self):
        chance = random.Random(30)
        seen = {True: 0, False: 0}
        for turn in range(200):
            office = read(random_rows(chance))
            home = random_home(chance)
            told = {title: pair_of(Fraction(chance.randint(0, 3000), chance.randint(1, 9))) for title in TITLES}
            for kind in office.kinds:
                one = told_by(kind, home, told)
                self.assertTrue(all_are_fractions(one), one)
                self.assertEqual(one["title"], kind.title)
                self.assertEqual(one["worths"], [part.worth(home) for part in kind.parts])
                self.assertEqual(number_of(one["full"]), sum(number_of(worth) for worth in one["worths"]))
                owns = [number_of(rate) * sum(who[2] for who in home if low <= who[1] <= high)
                        for rate, low, high in kind.pays]
                self.assertEqual(one["owns"], [pair_of(own) for own in owns])
                others = [number_of(rate) * number_of(told[title]) for title, rate in kind.counts]
                self.assertEqual(one["others"], [pair_of(other) for other in others])
                counted = sum(owns) + sum(others)
                self.assertEqual(one["counted"], pair_of(counted))
                may = all([term.met(home) for term in kind.terms]) and (kind.limit is None or counted <= kind.limit)
                self.assertIs(one["may"], may)
                ends = [limit for limit, rate in kind.offs[1:]] + [10 ** 30]
                taken = sum(number_of(off[1]) * max(min(counted, end) - off[0], 0) for off, end in zip(kind.offs, ends))
                self.assertEqual(one["taken"], pair_of(taken))
                left = max(number_of(one["full"]) - taken, 0) if may else 0
                self.assertEqual(one["left"], pair_of(left))
                self.assertEqual(one["amount"], kind.amount_from(pair_of(left)))
                seen[may] += 1
        self.assertTrue(min(seen.values()) > 50, seen)


class Falling(unittest.TestCase):
    def held_against_sheets(self, kind, home, told, inner):
        bend = falling(kind, home, told, inner)
        self.assertIsNone(bend_fault(bend))
        for place in probes([bend]) + [Fraction(place, 7) for place in range(0, 9000, 531)]:
            wanted = told_by(kind, home, {**told, inner: pair_of(place)})["amount"]
            self.assertEqual(value_at(bend, place), number_of(wanted))
        return bend

    def test_by_hand(self):
        kind = bare(parts=[Base(10)], counts=[("rent", HALF)], offs=[(10, HALF), (20, (1, 4))])
        self.assertEqual(falling(kind, [], {}, "rent"), [
            (NOUGHT, (10, 1), NOUGHT), ((20, 1), (10, 1), (-1, 4)), ((40, 1), (5, 1), (-1, 8)), ((80, 1), NOUGHT, NOUGHT),
        ])

    def test_own_pay_and_other_amounts_count_too(self):
        kind = bare(parts=[Base(200)], pays=[(HALF, 0, 17)], counts=[("abc", (2, 1)), ("rent", ONE)], offs=[(50, ONE)])
        # Without rent 35 + 2 * 5 = 45 is counted, so that five coins are free.
        wanted = [(NOUGHT, (200, 1), NOUGHT), ((5, 1), (200, 1), (-1, 1)), ((205, 1), NOUGHT, NOUGHT)]
        self.assertEqual(self.held_against_sheets(kind, HOME, {"abc": (5, 1)}, "rent"), wanted)

    def test_from_beyond_the_limits_on(self):
        kind = bare(parts=[Base(200)], pays=[(ONE, 0, 17)], counts=[("rent", ONE)], offs=[(50, ONE)])
        self.assertEqual(falling(kind, HOME, {}, "rent"), [(NOUGHT, (180, 1), (-1, 1)), ((180, 1), NOUGHT, NOUGHT)])
        self.assertEqual(falling(kind, [("a", 5, 250, 0)], {}, "rent"), EVERYWHERE_NOUGHT)
        self.assertEqual(falling(kind, [("a", 5, 251, 0)], {}, "rent"), EVERYWHERE_NOUGHT)

    def test_where_the_terms_are_not_met(self):
        kind = bare(parts=[Base(200)], terms=[From(1, 18, 150)], counts=[("rent", ONE)], offs=[(50, ONE)])
        self.assertEqual(self.held_against_sheets(kind, [BOB], {}, "rent"), EVERYWHERE_NOUGHT)
        self.assertEqual(self.held_against_sheets(kind, [], {}, "rent"), EVERYWHERE_NOUGHT)
        self.assertEqual(len(self.held_against_sheets(kind, [CYD], {}, "rent")), 3)

    def test_where_nothing_is_taken_off(self):
        for changed in [{"offs": []}, {"offs": [(0, NOUGHT)]}, {"counts": [("rent", NOUGHT)], "offs": [(9, ONE)]}]:
            kind = bare(**{"parts": [Base(200)], "counts": [("rent", ONE)], **changed})
            self.assertEqual(falling(kind, HOME, {}, "rent"), [(NOUGHT, (200, 1), NOUGHT)])

    def test_counted_at_a_rate_of_nought_beside_others(self):
        kind = bare(parts=[Base(200)], counts=[("rent", NOUGHT), ("abc", ONE)], offs=[(0, HALF)])
        self.assertEqual(falling(kind, HOME, {"abc": (30, 1)}, "rent"), [(NOUGHT, (185, 1), NOUGHT)])

    def test_where_nothing_is_full(self):
        kind = bare(counts=[("rent", ONE)], offs=[(5, ONE)])
        self.assertEqual(falling(kind, HOME, {}, "rent"), EVERYWHERE_NOUGHT)

    def test_a_band_that_takes_nothing_further(self):
        kind = bare(parts=[Base(20)], counts=[("rent", ONE)], offs=[(5, ONE), (15, NOUGHT), (25, ONE)])
        self.assertEqual(self.held_against_sheets(kind, [], {}, "rent"), [
            (NOUGHT, (20, 1), NOUGHT), ((5, 1), (20, 1), (-1, 1)), ((15, 1), (10, 1), NOUGHT), ((25, 1), (10, 1), (-1, 1)),
            ((35, 1), NOUGHT, NOUGHT),
        ])

    def test_the_kind_itself(self):
        kind = bare(parts=[Base(30)], counts=[("food", ONE)], offs=[(0, ONE)])
        self.assertEqual(falling(kind, HOME, {}, "food"), [(NOUGHT, (30, 1), (-1, 1)), ((30, 1), NOUGHT, NOUGHT)])

    def test_what_is_told_of_inner_says_nothing(self):
        kind = bare(parts=[Base(200)], counts=[("abc", HALF), ("rent", ONE)], offs=[(5, ONE), (50, HALF)])
        wanted = falling(kind, HOME, {"abc": (5, 1)}, "rent")
        for amount in [NOUGHT, (7, 3), (10 ** 9, 1)]:
            self.assertEqual(falling(kind, HOME, {"abc": (5, 1), "rent": amount, "zed": ONE}, "rent"), wanted)
        self.assertNotEqual(falling(kind, HOME, {"abc": (6, 1)}, "rent"), wanted)

    def test_at_the_bounds(self):
        most = (9999, 1)
        kind = bare(parts=[Base(10 ** 9)], pays=[((1, 9999), 0, 150)], counts=[("rent", most)],
                    offs=[(0, (1, 9999)), (10 ** 9, most)])
        self.held_against_sheets(kind, HOMES[-1], {}, "rent")

    def test_over_many(self):
        chance = random.Random(31)
        lengths = {}
        for turn in range(120):
            office = read([row for row in random_rows(chance) if not row.startswith(("until", "round"))])
            home = random_home(chance)
            told = {title: pair_of(Fraction(chance.randint(0, 300), chance.randint(1, 9))) for title in TITLES}
            for kind in office.kinds:
                for inner, rate in kind.counts[:2]:
                    others = {title: amount for title, amount in told.items() if title != inner}
                    bend = self.held_against_sheets(kind, home, others, inner)
                    self.assertEqual(falling(kind, home, told, inner), bend)
                    lengths[len(bend)] = True
        self.assertTrue(max(lengths) > 4)


class Own(unittest.TestCase):
    def test_nothing_handed_in_is_changed(self):
        chance = random.Random(32)
        for turn in range(30):
            rows = [row for row in random_rows(chance) if not row.startswith(("until", "round"))]
            office = read(rows)
            home = random_home(chance)
            told = {title: (chance.randint(0, 300), 1) for title in TITLES}
            before = copy.deepcopy([home, told])
            for kind in office.kinds:
                sheet(kind, home, told)
                for inner, rate in kind.counts:
                    falling(kind, home, told, inner)
            self.assertEqual([home, told], before)
            self.assertEqual(list(told), TITLES)
            self.assertEqual(rows_of(office), rows)

    def test_what_a_sheet_told_is_the_asker_s_own(self):
        told = {"rent": (30, 1), "abc": ONE}
        home = list(HOME)
        one, again = sheet(FOOD, home, told), sheet(FOOD, home, told)
        wanted = copy.deepcopy(one)
        for part in [one[1], one[3], one[4]]:
            part.clear()
        self.assertEqual(again, wanted)
        self.assertEqual(sheet(FOOD, home, told), wanted)
        told.clear()
        home.clear()
        self.assertEqual(again, wanted)

    def test_what_is_told_of_nothing_is_the_asker_s_own_too(self):
        one = sheet(bare(), [], {})
        for part in [one[1], one[3], one[4]]:
            part.append(ONE)
        self.assertEqual(sheet(bare(), [], {})[1:5], ([], NOUGHT, [], []))

    def test_a_falling_bend_is_the_asker_s_own(self):
        never = bare(parts=[Base(9)], terms=[From(60, 0, 0)], counts=[("rent", ONE)])
        flat = bare(parts=[Base(9)], counts=[("rent", ONE)])
        slope = bare(parts=[Base(9)], counts=[("rent", ONE)], offs=[(3, ONE)])
        for kind in [never, flat, slope]:
            told, again = falling(kind, HOME, {}, "rent"), falling(kind, HOME, {}, "rent")
            wanted = list(again)
            told.clear()
            self.assertEqual(again, wanted)
            self.assertEqual(falling(kind, HOME, {}, "rent"), wanted)


if __name__ == "__main__":
    unittest.main()
