import random
import unittest
from fractions import Fraction

from doletaper.errors import HelpError, Jumps, Tangled, Widens
from doletaper.kinds import Office
from doletaper.order import narrows, order
from doletaper.parts import Base, From
from doletaper.reading import read, rows_of
from doletaper.sheets import falling
from support import (
    HALF, HOMES, NOUGHT, ONE, bare, is_fraction, number_of, office_of, pair_of, random_counts, random_rows, reached,
    value_at,
)


def alone(title):
    return ("alone", [title], NOUGHT)


def kind_of(title, counts, rates=(), **changed):
    """A kind with off rows of these rates and counts (title, rate)."""
    return bare(title=title, counts=counts, offs=[(at * 10, rate) for at, rate in enumerate(rates)], **changed)


def ring(rates, counts, **changed):
    """An office that is one ring a, b, c .., each counting the next at its rate, with one off row of its rate."""
    titles = "abcdefgh"[:len(rates)]
    return Office([kind_of(title, [(titles[(at + 1) % len(titles)], counts[at])], [rates[at]], **changed.get(title, {}))
                   for at, title in enumerate(titles)], [])


class Blocks(unittest.TestCase):
    def test_without_kinds(self):
        self.assertEqual(order(Office([], [])), [])

    def test_a_kind_that_does_not_lead_to_itself(self):
        told = order(office_of({"a": []}))
        self.assertEqual(told, [("alone", ["a"], (0, 1))])
        self.assertEqual([type(told), type(told[0]), type(told[0][1])], [list, tuple, list])

    def test_alone_with_bands_limit_and_unit(self):
        office = Office([kind_of("a", [("b", (9, 1))], [(5, 1)], limit=5, unit=5), kind_of("b", [], [ONE], unit=1)], [])
        self.assertEqual(order(office), [alone("b"), alone("a")])

    def test_alone_beside_a_ring_that_it_leads_to(self):
        office = office_of({"a": ["b"], "b": ["b"]})
        self.assertEqual(order(office), [("ring", ["b"], NOUGHT), alone("a")])

    def test_alone_beside_a_ring_that_leads_to_it(self):
        office = office_of({"a": ["a", "b"], "b": []})
        self.assertEqual(order(office), [alone("b"), ("ring", ["a"], NOUGHT)])

    def test_a_ring_of_one(self):
        self.assertEqual(order(ring([HALF], [(2, 3)])), [("ring", ["a"], (1, 3))])

    def test_a_ring_of_two(self):
        self.assertEqual(order(ring([HALF, ONE], [(2, 3), (1, 4)])), [("ring", ["a", "b"], (1, 12))])

    def test_each_one_counts_the_next_one(self):
        self.assertEqual(order(office_of({"a": ["b"], "b": ["c"], "c": ["a"]}))[0][1], ["a", "b", "c"])
        self.assertEqual(order(office_of({"a": ["c"], "b": ["a"], "c": ["b"]}))[0][1], ["a", "c", "b"])
        told = order(office_of({"c": ["a"], "a": ["d"], "d": ["b"], "b": ["c"]}))[0][1]
        self.assertEqual(told, ["c", "a", "d", "b"])

    def test_it_begins_with_the_kind_that_stands_first_in_the_office(self):
        counts = {"zed": ["abc"], "m": ["zed"], "abc": ["m"]}
        self.assertEqual(order(office_of(counts))[0][1], ["zed", "abc", "m"])
        for first, wanted in [("m", ["m", "zed", "abc"]), ("abc", ["abc", "m", "zed"])]:
            turned = {title: counts[title] for title in sorted(counts, key=lambda title: title != first)}
            self.assertEqual(order(office_of(turned))[0][1], wanted)

    def test_kinds_outside_may_be_counted_too(self):
        office = office_of({"a": ["x", "b", "y"], "b": ["y", "a"], "x": ["y"], "y": []})
        self.assertEqual(order(office), [alone("y"), alone("x"), ("ring", ["a", "b"], NOUGHT)])


class Pulls(unittest.TestCase):
    def test_the_product_of_greatest_rates_and_count_rates(self):
        office = Office([
            kind_of("a", [("x", (5, 1)), ("b", (2, 3))], [(1, 4), HALF, (1, 5)]),
            kind_of("b", [("c", (3, 7)), ("x", (9, 1))], [(3, 2)]),
            kind_of("c", [("a", (7, 5))], [(1, 9), (1, 3)]), kind_of("x", [], [(8, 1)]),
        ], [])
        wanted = Fraction(1, 2) * Fraction(2, 3) * Fraction(3, 2) * Fraction(3, 7) * Fraction(1, 3) * Fraction(7, 5)
        self.assertEqual(order(office), [alone("x"), ("ring", ["a", "b", "c"], pair_of(wanted))])

    def test_nought_where_a_kind_has_no_bands(self):
        office = Office([kind_of("a", [("b", (9, 1))], [(9, 1)]), kind_of("b", [("a", (9, 1))])], [])
        self.assertEqual(order(office), [("ring", ["a", "b"], (0, 1))])

    def test_nought_where_a_rate_is(self):
        self.assertEqual(order(ring([NOUGHT, (9, 1)], [ONE, ONE]))[0][2], (0, 1))
        self.assertEqual(order(ring([(9, 1), (9, 1)], [NOUGHT, ONE]))[0][2], (0, 1))

    def test_in_lowest_terms(self):
        told = order(ring([(2, 3), (3, 4)], [(2, 9), (9, 4)]))[0][2]
        self.assertEqual(told, (1, 4))
        self.assertTrue(is_fraction(told))

    def test_the_rate_at_which_the_next_one_is_counted(self):
        office = Office([kind_of("a", [("b", (1, 7)), ("x", ONE)], [ONE]), kind_of("b", [("x", ONE), ("a", (1, 5))], [ONE]),
                         kind_of("x", [])], [])
        self.assertEqual(order(office)[-1], ("ring", ["a", "b"], (1, 35)))

    def test_at_the_bounds(self):
        most = (9999, 1)
        self.assertEqual(order(ring([most] * 7, [most] * 7))[0], ("ring", list("abcdefg"), (9999 ** 14, 1)))
        least = (1, 9999)
        self.assertEqual(order(ring([least] * 8, [least] * 8))[0], ("ring", list("abcdefgh"), (1, 9999 ** 16)))

    def test_one_round_differs_by_at_most_the_pull_times_as_much(self):
        chance = random.Random(27)
        for turn in range(60):
            many = chance.choice([1, 2, 3, 4, 5])
            rates = [pair_of(Fraction(chance.randint(0, 5), 4)) for at in range(2 * many)]
            office = ring(rates[:many], rates[many:], **{title: {"parts": [Base(chance.randint(0, 90))]} for title in "abcde"})
            try:
                block = order(office)[0]
            except Widens as refusal:
                block = ("ring", refusal.titles, refusal.pull)
            home = chance.choice(HOMES)
            starts = [Fraction(chance.randint(0, 300), chance.randint(1, 3)) for at in range(6)]
            outs = []
            for start in starts:
                out = start
                for at in range(many - 1, -1, -1):
                    inner = block[1][(at + 1) % many]
                    out = value_at(falling(office.kind(block[1][at]), home, {}, inner), out)
                outs.append(out)
            for start, out in zip(starts, outs):
                self.assertTrue(abs(out - outs[0]) <= number_of(block[2]) * abs(start - starts[0]))


class Placing(unittest.TestCase):
    def titles(self, counts):
        return [block[1] for block in order(office_of(counts))]

    def test_what_is_counted_goes_ahead(self):
        self.assertEqual(self.titles({"a": ["b"], "b": ["c"], "c": []}), [["c"], ["b"], ["a"]])

    def test_of_several_the_one_that_stands_first_in_the_office(self):
        self.assertEqual(self.titles({"c": [], "a": [], "b": []}), [["c"], ["a"], ["b"]])
        self.assertEqual(self.titles({"d": ["c"], "b": [], "c": [], "a": ["b"]}), [["b"], ["c"], ["d"], ["a"]])
        self.assertEqual(self.titles({"a": ["d"], "b": [], "c": [], "d": []}), [["b"], ["c"], ["d"], ["a"]])
        self.assertEqual(self.titles({"a": ["b"], "b": [], "c": []}), [["b"], ["a"], ["c"]])

    def test_a_ring_stands_where_its_first_kind_does(self):
        self.assertEqual(self.titles({"a": ["z"], "m": [], "z": ["a"]}), [["a", "z"], ["m"]])
        self.assertEqual(self.titles({"m": [], "a": ["z"], "z": ["a"]}), [["m"], ["a", "z"]])
        self.assertEqual(self.titles({"a": ["z"], "m": [], "z": ["a", "m"]}), [["m"], ["a", "z"]])
        self.assertEqual(self.titles({"x": ["z"], "a": ["z"], "m": [], "z": ["a"]}), [["a", "z"], ["x"], ["m"]])

    def test_a_ring_waits_for_all_that_its_kinds_count(self):
        counts = {"a": ["b"], "b": ["a", "p"], "c": ["d"], "d": ["c"], "p": ["c"]}
        self.assertEqual(self.titles(counts), [["c", "d"], ["p"], ["a", "b"]])

    def test_two_rings_beside_one_another(self):
        self.assertEqual(self.titles({"a": ["c"], "b": ["d"], "c": ["a"], "d": ["b"]}), [["a", "c"], ["b", "d"]])
        self.assertEqual(self.titles({"a": ["c", "b"], "b": ["d"], "c": ["a"], "d": ["b"]}), [["b", "d"], ["a", "c"]])

    def test_homes_and_amounts_say_nothing(self):
        office = Office([kind_of("a", [("b", HALF)], [ONE], terms=[From(60, 0, 0)]), kind_of("b", [("a", HALF)], [ONE])], [])
        self.assertEqual(order(office), [("ring", ["a", "b"], (1, 4))])


class Refused(unittest.TestCase):
    def refused(self, office, error, titles, pull=None):
        with self.assertRaises(HelpError) as caught:
            order(office)
        self.assertIs(type(caught.exception), error)
        self.assertEqual(caught.exception.titles, titles)
        self.assertIs(type(caught.exception.titles), list)
        if pull is not None:
            self.assertEqual(caught.exception.pull, pull)

    def test_a_kind_that_counts_two_of_its_knot(self):
        self.refused(office_of({"a": ["b", "c"], "b": ["a"], "c": ["a"]}), Tangled, ["a", "b", "c"])
        self.refused(office_of({"a": ["b"], "b": ["c"], "c": ["a", "b"]}), Tangled, ["a", "b", "c"])

    def test_itself_being_one_of_the_two(self):
        self.refused(office_of({"a": ["a", "b"], "b": ["a"]}), Tangled, ["a", "b"])
        self.refused(office_of({"a": ["b"], "b": ["a", "b"]}), Tangled, ["a", "b"])
        self.assertEqual(len(order(office_of({"a": ["a", "b"], "b": ["b"]}))), 2)

    def test_at_a_rate_of_nought_too(self):
        office = Office([kind_of("a", [("b", ONE), ("a", NOUGHT)]), kind_of("b", [("a", NOUGHT)])], [])
        self.refused(office, Tangled, ["a", "b"])

    def test_all_kinds_of_the_knot_in_the_order_of_the_office(self):
        counts = {"zed": ["m"], "x": [], "b": ["zed"], "m": ["a", "x"], "a": ["b", "zed"], "y": ["a"]}
        self.refused(office_of(counts), Tangled, ["zed", "b", "m", "a"])

    def test_a_ring_with_a_unit_or_a_limit(self):
        for many in range(1, 6):
            for at in range(many):
                for changed in [{"unit": 1}, {"limit": 0}, {"limit": 10 ** 9}, {"unit": 5, "limit": 5, "way": "up"}]:
                    office = ring([HALF] * many, [HALF] * many, **{"abcde"[at]: changed})
                    self.refused(office, Jumps, list("abcde"[:many]))

    def test_the_titles_of_the_ring_s_block(self):
        self.refused(office_of({"b": ["c"], "a": ["b"], "c": ["a"]}, a={"unit": 5}), Jumps, ["b", "c", "a"])

    def test_a_way_alone_rounds_nothing(self):
        self.assertEqual(order(ring([HALF], [ONE], a={"way": "up"})), [("ring", ["a"], HALF)])

    def test_a_limit_or_a_unit_outside_the_ring(self):
        office = office_of({"a": ["b", "x"], "b": ["a"], "x": [], "y": ["a"]}, x={"unit": 5}, y={"limit": 5, "unit": 5})
        self.assertEqual([block[1] for block in order(office)], [["x"], ["a", "b"], ["y"]])

    def test_an_even_ring_whose_pull_is_not_below_1(self):
        self.refused(ring([ONE, ONE], [ONE, ONE]), Widens, ["a", "b"], (1, 1))
        self.refused(ring([(2, 1), HALF], [ONE, ONE]), Widens, ["a", "b"], (1, 1))
        self.refused(ring([ONE, ONE], [ONE, (9999, 9998)]), Widens, ["a", "b"], (9999, 9998))
        self.refused(ring([(3, 2)] * 4, [ONE] * 4), Widens, ["a", "b", "c", "d"], (81, 16))
        self.assertEqual(order(ring([ONE, ONE], [ONE, (9998, 9999)])), [("ring", ["a", "b"], (9998, 9999))])
        self.assertEqual(order(ring([ONE] * 6, [ONE] * 5 + [(1, 2)])), [("ring", list("abcdef"), (1, 2))])

    def test_the_titles_of_the_widening_ring_s_block(self):
        offs = {title: {"offs": [(0, (2, 1))]} for title in "abcd"}
        self.refused(office_of({"d": ["a"], "c": ["b"], "a": ["c"], "b": ["d"]}, **offs), Widens, ["d", "a", "c", "b"], (16, 1))

    def test_an_odd_ring_is_let_by_whatever_its_pull(self):
        for many in [1, 3, 5, 7]:
            for rate in [(99, 100), ONE, (3, 2), (9999, 1)]:
                pull = pair_of(number_of(rate) ** many)
                self.assertEqual(order(ring([rate] * many, [ONE] * many)), [("ring", list("abcdefg"[:many]), pull)])

    def test_tangled_goes_ahead_of_jumps(self):
        office = office_of({"a": ["b", "c"], "b": ["a"], "c": ["a"]}, a={"unit": 5}, b={"limit": 5})
        self.refused(office, Tangled, ["a", "b", "c"])

    def test_jumps_goes_ahead_of_widens(self):
        self.refused(ring([(2, 1), (2, 1)], [ONE, ONE], b={"limit": 5}), Jumps, ["a", "b"])
        self.refused(ring([(2, 1), (2, 1)], [ONE, ONE], a={"unit": 5}), Jumps, ["a", "b"])

    def test_the_knot_that_is_placed_first_is_refused(self):
        jumping, tangled = {"a": ["a"]}, {"b": ["c"], "c": ["b", "c"]}
        self.refused(office_of({**jumping, **tangled}, a={"unit": 5}), Jumps, ["a"])
        self.refused(office_of({**tangled, **jumping}, a={"unit": 5}), Tangled, ["b", "c"])

    def test_not_the_one_that_stands_first_but_waits(self):
        counts = {"a": ["a", "z"], "z": ["y", "z"], "y": ["z"]}
        self.refused(office_of(counts, a={"unit": 5}), Tangled, ["z", "y"])
        self.refused(office_of({"a": ["b", "p"], "b": ["a", "b"], "p": ["p"]}, p={"limit": 1}), Jumps, ["p"])

    def test_behind_knots_that_are_let_by(self):
        office = office_of({"x": [], "a": ["a"], "b": ["b", "x"], "c": ["b"]}, b={"limit": 1})
        self.refused(office, Jumps, ["b"])

    def test_the_titles_of_a_refusal_are_the_asker_s_own(self):
        office = office_of({"a": ["b", "a"], "b": ["a"]})
        for turn in range(2):
            with self.assertRaises(Tangled) as caught:
                order(office)
            self.assertEqual(caught.exception.titles, ["a", "b"])
            caught.exception.titles.clear()


def reckoned(office):
    """The order of an office by the words of the document, reckoned apart: blocks, then the refusal's class if any."""
    counts = {kind.title: [title for title, rate in kind.counts] for kind in office.kinds}
    reach = reached(counts)
    knots = []
    for title in counts:
        knot = [other for other in counts if other == title or (title in reach[other] and other in reach[title])]
        if knot not in knots:
            knots.append(knot)
    blocks = []
    placed = set()
    while len(placed) < len(counts):
        ready = [knot for knot in knots if not placed & set(knot)
                 and all(placed | set(knot) >= set(counts[title]) for title in knot)]
        knot = min(ready, key=lambda one: list(counts).index(one[0]))
        inside = {title: [other for other in counts[title] if other in knot] for title in knot}
        if any(len(others) > 1 for others in inside.values()):
            return blocks, (Tangled, knot, None)
        placed |= set(knot)
        if not inside[knot[0]]:
            blocks.append(("alone", knot, (0, 1)))
            continue
        titles = [knot[0]]
        while inside[titles[-1]] != [knot[0]]:
            titles += inside[titles[-1]]
        pull = Fraction(1)
        for title in titles:
            kind = office.kind(title)
            pull *= max([number_of(rate) for limit, rate in kind.offs], default=0)
            pull *= number_of(dict(kind.counts)[inside[title][0]])
        if any(office.kind(title).unit is not None or office.kind(title).limit is not None for title in titles):
            return blocks, (Jumps, titles, None)
        if len(titles) % 2 == 0 and pull >= 1:
            return blocks, (Widens, titles, pair_of(pull))
        blocks.append(("ring", titles, pair_of(pull)))
    return blocks, None


class Many(unittest.TestCase):
    def test_as_reckoned_apart(self):
        chance = random.Random(28)
        seen = {"ring": 0, Tangled: 0, Jumps: 0, Widens: 0, None: 0}
        for turn in range(1500):
            counts = random_counts(chance)
            office = Office([
                kind_of(title, [(other, pair_of(Fraction(chance.randint(0, 6), chance.randint(1, 4)))) for other in others],
                        [pair_of(Fraction(chance.randint(0, 6), 4)) for at in range(chance.randint(0, 3))],
                        unit=chance.choice([None] * 9 + [5]), limit=chance.choice([None] * 9 + [5]))
                for title, others in counts.items()
            ], [])
            blocks, refusal = reckoned(office)
            try:
                self.assertEqual(order(office), blocks)
                self.assertIsNone(refusal)
            except HelpError as caught:
                self.assertEqual((type(caught), caught.titles, getattr(caught, "pull", None)), refusal)
            seen[refusal and refusal[0]] += 1
            seen["ring"] += len([block for block in blocks if block[0] == "ring"])
        self.assertTrue(min(seen.values()) > 20, seen)


class Narrows(unittest.TestCase):
    def test_a_ring_whose_pull_is_below_1(self):
        for pull in [NOUGHT, HALF, (9998, 9999), (10 ** 30 - 1, 10 ** 30)]:
            self.assertIs(narrows(("ring", ["a"], pull)), True)
            self.assertIs(narrows(("ring", ["a", "b"], pull)), True)

    def test_a_ring_whose_pull_is_not_below_1(self):
        for pull in [ONE, (9999, 9998), (5, 1), (10 ** 30 + 1, 10 ** 30)]:
            self.assertIs(narrows(("ring", ["a"], pull)), False)
            self.assertIs(narrows(("ring", ["a", "b", "c"], pull)), False)

    def test_a_kind_alone(self):
        self.assertIs(narrows(("alone", ["a"], NOUGHT)), False)

    def test_blocks_that_order_told(self):
        office = Office([kind_of("a", [("a", ONE)], [HALF]), kind_of("b", [("b", ONE)], [ONE]), kind_of("c", [])], [])
        self.assertEqual([narrows(block) for block in order(office)], [True, False, False])


class Own(unittest.TestCase):
    def test_nothing_handed_in_is_changed(self):
        chance = random.Random(29)
        for turn in range(40):
            rows = random_rows(chance)
            office = read(rows)
            try:
                for block in order(office):
                    before = (block[0], list(block[1]), block[2])
                    narrows(block)
                    self.assertEqual(block, before)
            except (Tangled, Jumps, Widens):
                pass
            self.assertEqual(rows_of(office), rows)

    def test_what_is_told_is_the_asker_s_own(self):
        office = office_of({"a": ["b"], "b": ["a"], "c": []})
        wanted = [("ring", ["a", "b"], NOUGHT), alone("c")]
        told, again = order(office), order(office)
        told[0][1].clear()
        told[1][1].append("zed")
        told.pop()
        self.assertEqual(again, wanted)
        self.assertEqual(order(office), wanted)
        self.assertEqual(office.named(), ["a", "b", "c"])


if __name__ == "__main__":
    unittest.main()
