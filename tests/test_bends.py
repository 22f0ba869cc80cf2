import copy
import random
import unittest
from fractions import Fraction

from doletaper.bends import after, bands, bend_at, floored, scaled, stays, steepest, straight, summed
from doletaper.errors import NoBend
from support import (
    BIG, BIGGER, bend_fault, bend_through, is_fraction, number_of, pair_of, probes, random_bend, value_at,
)

NOUGHT = (0, 1)
ONE = (1, 1)
EVERYWHERE_NOUGHT = [(NOUGHT, NOUGHT, NOUGHT)]
LONG = [(start, start % 3 - 1) for start in range(0, 120, 2)]


def lifted(bend):
    """The bend, moved up and turned up behind its last start, so that it just touches nought or stays above."""
    least = min(number_of(value) for start, value, slope in bend)
    moved = [(start, pair_of(number_of(value) - least), slope) for start, value, slope in bend]
    start, value, slope = moved[-1]
    slope = (abs(slope[0]), slope[1])
    if len(moved) > 1 and moved[-2][2] == slope:
        slope = (slope[0] + slope[1], slope[1])
    return moved[:-1] + [(start, value, slope)]


def some_bends(seed, many=24):
    chance = random.Random(seed)
    return [random_bend(chance, chance.randint(1, 6)) for turn in range(many)]


class BendCase(unittest.TestCase):
    def assert_bend(self, bend):
        self.assertIsNone(bend_fault(bend), bend)

    def assert_comes_to(self, bend, wanted, beside):
        """The bend is told by its one list and comes to wanted(place) at the places that matter to all the bends."""
        self.assert_bend(bend)
        for place in probes(beside + [bend]):
            self.assertEqual(value_at(bend, place), wanted(place), (bend, place))


class Straight(BendCase):
    def test_one_stretch(self):
        self.assertEqual(straight((3, 1), (-1, 2)), [(NOUGHT, (3, 1), (-1, 2))])
        self.assertEqual(straight((-3, 1), NOUGHT), [(NOUGHT, (-3, 1), NOUGHT)])
        self.assertEqual(straight((BIG, 2), (-1, BIG)), [(NOUGHT, (BIG, 2), (-1, BIG))])


class Bands(BendCase):
    def test_the_document_s_own(self):
        told = bands([(10, (1, 2)), (20, (1, 4))])
        self.assertEqual(told, [
            (NOUGHT, NOUGHT, NOUGHT), ((10, 1), NOUGHT, (1, 2)), ((20, 1), (5, 1), (1, 4)),
        ])
        self.assertEqual(bend_at(told, (10, 1)), (0, 1))
        self.assertEqual(bend_at(told, (20, 1)), (5, 1))
        self.assertEqual(bend_at(told, (30, 1)), (15, 2))

    def test_no_pairs(self):
        self.assertEqual(bands([]), EVERYWHERE_NOUGHT)

    def test_first_limit_of_nought(self):
        self.assertEqual(bands([(0, (1, 2))]), [(NOUGHT, NOUGHT, (1, 2))])
        self.assertEqual(bands([(0, NOUGHT)]), EVERYWHERE_NOUGHT)
        self.assertEqual(bands([(0, (1, 2)), (1, ONE)]), [(NOUGHT, NOUGHT, (1, 2)), (ONE, (1, 2), ONE)])

    def test_first_rate_of_nought(self):
        self.assertEqual(bands([(10, NOUGHT)]), EVERYWHERE_NOUGHT)
        self.assertEqual(bands([(10, NOUGHT), (20, ONE)]), [(NOUGHT, NOUGHT, NOUGHT), ((20, 1), NOUGHT, ONE)])
        self.assertEqual(bands([(0, NOUGHT), (20, ONE)]), [(NOUGHT, NOUGHT, NOUGHT), ((20, 1), NOUGHT, ONE)])

    def test_equal_neighbouring_rates(self):
        self.assertEqual(
            bands([(10, (1, 2)), (20, (1, 2)), (30, (1, 2)), (40, NOUGHT), (50, NOUGHT)]),
            [(NOUGHT, NOUGHT, NOUGHT), ((10, 1), NOUGHT, (1, 2)), ((40, 1), (15, 1), NOUGHT)],
        )
        self.assertEqual(
            bands([(1, ONE), (2, NOUGHT), (3, ONE)]),
            [(NOUGHT, NOUGHT, NOUGHT), (ONE, NOUGHT, ONE), ((2, 1), ONE, NOUGHT), ((3, 1), ONE, ONE)],
        )

    def test_rates_of_any_sign_and_size(self):
        chance = random.Random(8)
        for turn in range(60):
            limits = sorted(chance.sample(range(0, 40), chance.randint(0, 7)))
            pairs = [(limit, pair_of(Fraction(chance.randint(-3, 3), chance.randint(1, 2)))) for limit in limits]
            told = bands(pairs)

            def wanted(place):
                ends = limits[1:] + [None]
                total = Fraction(0)
                for (limit, rate), end in zip(pairs, ends):
                    upto = place if end is None else min(place, end)
                    total += number_of(rate) * max(upto - limit, 0)
                return total

            self.assert_comes_to(told, wanted, [bend_through(0, [(limit, 0) for limit in [0] + limits])])

    def test_three_hundred_figures(self):
        told = bands([(BIG, (-BIG, BIGGER)), (BIGGER, (BIGGER, BIG))])
        self.assert_bend(told)
        self.assertEqual(len(told), 3)
        self.assertEqual(
            value_at(told, Fraction(BIGGER + 2)), Fraction(-BIG, BIGGER) * (BIGGER - BIG) + 2 * Fraction(BIGGER, BIG)
        )

    def test_limits_that_are_refused(self):
        half = (1, 2)
        for limits in [[-1], [-BIG], [-1, 5], [5, 5], [0, 0], [5, 4], [1, 2, 2], [1, 3, 2], [1, 2, -1], [BIG, BIG]]:
            with self.subTest(limits=limits), self.assertRaises(NoBend):
                bands([(limit, half) for limit in limits])

    def test_refused_also_where_rates_are_nought_or_equal(self):
        for pairs in [[(-1, NOUGHT)], [(3, NOUGHT), (3, NOUGHT)], [(3, ONE), (2, ONE)]]:
            with self.subTest(pairs=pairs), self.assertRaises(NoBend):
                bands(pairs)


class At(BendCase):
    def test_at_between_and_beyond_the_starts(self):
        for bend in some_bends(7) + [bend_through(1, LONG)]:
            for place in probes([bend]):
                told = bend_at(bend, pair_of(place))
                self.assertTrue(is_fraction(told))
                self.assertEqual(number_of(told), value_at(bend, place))

    def test_three_hundred_figures(self):
        bend = bend_through(-BIG, [(0, Fraction(BIG, BIGGER)), (BIG, Fraction(-1, BIG))])
        for place in [Fraction(0), Fraction(1, BIGGER), Fraction(BIG) - Fraction(1, 3), Fraction(BIG), Fraction(BIGGER)]:
            self.assertEqual(number_of(bend_at(bend, pair_of(place))), value_at(bend, place))


class Summed(BendCase):
    def test_ordinary(self):
        one = bands([(10, ONE)])
        other = bands([(5, (1, 2)), (20, NOUGHT)])
        self.assertEqual(summed(one, other), [
            (NOUGHT, NOUGHT, NOUGHT), ((5, 1), NOUGHT, (1, 2)),
            ((10, 1), (5, 2), (3, 2)), ((20, 1), (35, 2), ONE),
        ])

    def test_what_cancels_is_left_out(self):
        for bend in some_bends(91):
            self.assertEqual(summed(bend, scaled(bend, (-1, 1))), EVERYWHERE_NOUGHT)
        one = bend_through(0, [(0, 1), (3, 2), (5, 4)])
        other = bend_through(2, [(0, 1), (3, 0), (6, 1)])
        self.assertEqual(summed(one, other), bend_through(2, [(0, 2), (5, 4), (6, 5)]))

    def test_over_many(self):
        bends = some_bends(92)
        for one, other in zip(bends, bends[1:]):
            told = summed(one, other)
            self.assert_comes_to(told, lambda place: value_at(one, place) + value_at(other, place), [one, other])
            self.assertEqual(told, summed(other, one))

    def test_long_and_large(self):
        one = bend_through(1, LONG)
        other = bend_through(-BIG, [(0, Fraction(1, BIGGER)), (1, 7), (119, Fraction(-BIG)), (BIG, 3)])
        told = summed(one, other)
        self.assert_comes_to(told, lambda place: value_at(one, place) + value_at(other, place), [one, other])


class Scaled(BendCase):
    def test_by_nought(self):
        for bend in some_bends(93):
            self.assertEqual(scaled(bend, NOUGHT), EVERYWHERE_NOUGHT)

    def test_by_one_and_below_nought(self):
        bend = bend_through(3, [(0, -1), (4, 2)])
        self.assertEqual(scaled(bend, ONE), bend)
        self.assertEqual(scaled(bend, (-3, 2)), [
            (NOUGHT, (-9, 2), (3, 2)), ((4, 1), (3, 2), (-3, 1)),
        ])

    def test_over_many(self):
        for bend in some_bends(94):
            for rate in [(1, 3), (-2, 3), (5, 1), (-1, 1), (BIG, BIGGER), (-BIGGER, 2)]:
                self.assert_comes_to(
                    scaled(bend, rate), lambda place: value_at(bend, place) * number_of(rate), [bend]
                )


class Floored(BendCase):
    def test_falls_through_nought(self):
        self.assertEqual(floored(straight((3, 1), (-1, 2))), bend_through(3, [(0, Fraction(-1, 2)), (6, 0)]))

    def test_rises_through_nought(self):
        self.assertEqual(floored(straight((-3, 1), (1, 2))), bend_through(0, [(0, 0), (6, Fraction(1, 2))]))

    def test_through_nought_between_two_starts(self):
        bend = bend_through(4, [(0, -2), (5, 3), (9, 0)])
        self.assertEqual(floored(bend), bend_through(4, [(0, -2), (2, 0), (7, 3), (9, 0)]))

    def test_through_nought_on_a_start(self):
        self.assertEqual(floored(bend_through(4, [(0, -2), (2, -1)])), bend_through(4, [(0, -2), (2, 0)]))
        self.assertEqual(floored(bend_through(-4, [(0, 2), (2, 1)])), bend_through(0, [(0, 0), (2, 1)]))

    def test_touching_nought_changes_nothing(self):
        for bend in [bend_through(4, [(0, -2), (2, 1)]), straight(NOUGHT, ONE), EVERYWHERE_NOUGHT]:
            self.assertEqual(floored(bend), bend)

    def test_nowhere_above_nought(self):
        for bend in [straight((-1, 3), NOUGHT), straight(NOUGHT, (-1, 1)), bend_through(-4, [(0, 2), (2, -1)]),
                     bend_through(-4, [(0, 1), (2, -1), (3, 0)])]:
            self.assertEqual(floored(bend), EVERYWHERE_NOUGHT)

    def test_over_many(self):
        for bend in some_bends(95, 60) + [bend_through(0, LONG), bend_through(-BIG, [(0, BIG), (2, Fraction(-1, BIGGER))])]:
            self.assert_comes_to(floored(bend), lambda place: max(value_at(bend, place), Fraction(0)), [bend])


class After(BendCase):
    def assert_after(self, outer, inner):
        told = after(outer, inner)
        self.assert_comes_to(told, lambda place: value_at(outer, value_at(inner, place)), [outer, inner])

    def test_inner_rises(self):
        outer = bend_through(0, [(0, 0), (10, 1), (20, 2)])
        self.assertEqual(after(outer, straight((5, 1), (1, 2))), [
            (NOUGHT, NOUGHT, NOUGHT), ((10, 1), NOUGHT, (1, 2)), ((30, 1), (10, 1), ONE),
        ])

    def test_inner_falls(self):
        outer = bend_through(0, [(0, 0), (10, 1), (20, 2)])
        inner = bend_through(25, [(0, -1), (25, 0)])
        self.assertEqual(after(outer, inner), [
            (NOUGHT, (20, 1), (-2, 1)), ((5, 1), (10, 1), (-1, 1)), ((15, 1), NOUGHT, NOUGHT),
        ])

    def test_inner_flat_on_a_start_and_between(self):
        outer = bend_through(1, [(0, 0), (10, 1), (20, 2)])
        self.assertEqual(after(outer, straight((10, 1), NOUGHT)), straight(ONE, NOUGHT))
        self.assertEqual(after(outer, straight((25, 1), NOUGHT)), straight((21, 1), NOUGHT))

    def test_behind_the_place_itself(self):
        itself = straight(NOUGHT, ONE)
        for bend in some_bends(96):
            self.assertEqual(after(bend, itself), bend)
            self.assertEqual(after(itself, lifted(bend)), lifted(bend))

    def test_over_many(self):
        outers = some_bends(97, 60)
        inners = [lifted(bend) for bend in some_bends(98, 60)]
        for outer, inner in zip(outers, inners):
            self.assert_bend(inner)
            self.assert_after(outer, inner)

    def test_long_and_large(self):
        self.assert_after(bend_through(1, LONG), lifted(bend_through(0, LONG)))
        inner = bend_through(BIG, [(0, Fraction(-1, 2)), (BIG, Fraction(BIG, BIGGER))])
        outer = bend_through(-BIGGER, [(0, 1), (Fraction(BIG, 3), -2), (BIG - 1, Fraction(1, BIG)), (BIGGER, -1)])
        self.assert_after(outer, inner)

    def test_inner_that_just_touches_nought_is_taken(self):
        outer = bend_through(7, [(0, 2), (1, -1)])
        for inner in [
            EVERYWHERE_NOUGHT,
            straight(NOUGHT, ONE),
            bend_through(4, [(0, -2), (2, 1)]),
            bend_through(4, [(0, -2), (2, 0)]),
            bend_through(0, [(0, 1), (1, -1), (2, 3)]),
        ]:
            self.assert_after(outer, inner)

    def test_inner_below_nought_is_refused(self):
        least = Fraction(1, BIG)
        for inner in [
            straight((-1, 1), NOUGHT),
            straight((-1, BIG), ONE),
            straight(NOUGHT, (-1, 1)),
            straight((BIG, 1), (-1, BIG)),
            bend_through(4, [(0, -2), (2 + least, 1)]),
            bend_through(1, [(0, 1), (100, 0), (200, -least)]),
            bend_through(4, [(0, -3), (2, 3), (9, 0)]),
        ]:
            with self.subTest(inner=inner), self.assertRaises(NoBend):
                after(straight(ONE, NOUGHT), inner)

    def test_outer_may_be_below_nought(self):
        self.assertEqual(after(straight((-5, 1), (-1, 1)), straight(ONE, ONE)), straight((-6, 1), (-1, 1)))


class Steepest(BendCase):
    def test_slopes_below_nought(self):
        self.assertEqual(steepest(straight(ONE, (-1, 2))), (1, 2))
        self.assertEqual(steepest(bend_through(0, [(0, 1), (1, -3), (2, 2)])), (3, 1))
        self.assertEqual(steepest(bend_through(0, [(0, Fraction(-1, 3)), (1, Fraction(1, 4))])), (1, 3))
        self.assertEqual(steepest(bend_through(0, [(0, 2), (1, -2), (2, 0)])), (2, 1))

    def test_nought_and_large(self):
        self.assertEqual(steepest(straight((-9, 1), NOUGHT)), NOUGHT)
        self.assertEqual(steepest(bend_through(0, [(0, BIG), (1, -BIGGER), (2, 0)])), (BIGGER, 1))

    def test_over_many(self):
        for bend in some_bends(10):
            told = steepest(bend)
            self.assertTrue(is_fraction(told))
            self.assertEqual(number_of(told), max(abs(number_of(slope)) for start, value, slope in bend))


class Stays(BendCase):
    def assert_stays(self, bend, place):
        told = stays(bend)
        self.assertTrue(is_fraction(told))
        self.assertEqual(told, pair_of(place))
        self.assertEqual(value_at(bend, number_of(told)), number_of(told))

    def test_between_two_starts(self):
        self.assert_stays(bend_through(6, [(0, -1), (5, 0)]), 3)
        self.assert_stays(bend_through(1, [(0, 0), (Fraction(1, 2), Fraction(1, 2)), (9, 0)]), Fraction(3, 2))

    def test_on_a_start(self):
        self.assert_stays(bend_through(0, [(0, Fraction(1, 2)), (3, 0)]), 0)
        self.assert_stays(bend_through(0, [(0, -1), (3, 0)]), 0)
        self.assert_stays(bend_through(6, [(0, -1), (3, 0)]), 3)
        self.assert_stays(bend_through(6, [(0, -1), (3, Fraction(1, 2)), (8, 0)]), 3)

    def test_beyond_the_last_start(self):
        self.assert_stays(straight((6, 1), (1, 2)), 12)
        self.assert_stays(bend_through(6, [(0, 0), (2, Fraction(1, 2))]), 10)
        self.assert_stays(bend_through(10, [(0, Fraction(-1, 2)), (4, -2), (5, -1)]), Fraction(11, 2))
        self.assert_stays(bend_through(BIG, [(0, 0), (2, Fraction(BIG - 1, BIG))]), BIG * BIG - 2 * BIG + 2)

    def test_over_many(self):
        chance = random.Random(11)
        for turn in range(120):
            bend = scaled(random_bend(chance, chance.randint(1, 6)), (1, 7))
            start, value, slope = bend[0]
            if number_of(value) < 0:
                bend = summed(bend, straight((-value[0], value[1]), NOUGHT))
            told = stays(bend)
            self.assertTrue(is_fraction(told))
            place = number_of(told)
            self.assertEqual(value_at(bend, place), place)
            for other in probes([bend]):
                if other != place:
                    self.assertEqual(value_at(bend, other) > other, other < place)

    def test_steeply_falling_and_large(self):
        self.assert_stays(straight((BIG, 1), (-BIGGER, 1)), Fraction(BIG, BIGGER + 1))

    def test_a_slope_of_one_or_above_is_refused(self):
        for bend in [
            straight(NOUGHT, ONE),
            straight(ONE, ONE),
            straight(NOUGHT, (3, 2)),
            bend_through(6, [(0, 0), (20, 1)]),
            bend_through(6, [(0, 1), (2, 0)]),
            bend_through(6, [(0, 0), (20, Fraction(BIG + 1, BIG)), (30, 0)]),
        ]:
            with self.subTest(bend=bend), self.assertRaises(NoBend):
                stays(bend)

    def test_a_slope_just_below_one_is_taken(self):
        self.assert_stays(straight(ONE, (BIG - 1, BIG)), BIG)

    def test_below_nought_at_nought_is_refused(self):
        for bend in [straight((-1, 1), NOUGHT), straight((-1, BIG), (-1, 1)), bend_through(-1, [(0, Fraction(1, 2)), (9, 0)])]:
            with self.subTest(bend=bend), self.assertRaises(NoBend):
                stays(bend)


class NothingIsChanged(BendCase):
    def test_what_is_handed_in_stays(self):
        one = bend_through(4, [(0, -2), (1, 1), (3, 0)])
        other = bend_through(1, [(0, 1), (2, Fraction(-1, 2))])
        low = scaled(one, (1, 4))
        pairs = [(0, ONE), (10, (1, 2)), (20, (1, 2))]
        kept = copy.deepcopy([one, other, low, pairs])
        bands(pairs)
        bend_at(one, (2, 1))
        summed(one, other)
        scaled(one, NOUGHT)
        floored(other)
        after(other, one)
        steepest(one)
        stays(low)
        self.assertEqual([one, other, low, pairs], kept)

    def test_refused_things_stay(self):
        bend = straight((-1, 1), ONE)
        pairs = [(5, ONE), (5, ONE)]
        for call in [lambda: bands(pairs), lambda: after(bend, bend), lambda: stays(bend)]:
            with self.assertRaises(NoBend):
                call()
        self.assertEqual((bend, pairs), ([(NOUGHT, (-1, 1), ONE)], [(5, ONE), (5, ONE)]))

    def test_each_list_is_the_asker_s_own(self):
        bend = bend_through(4, [(0, -2), (1, 1), (3, 0)])
        kept = list(bend)
        itself = straight(NOUGHT, ONE)
        for call in [
            lambda: straight(ONE, ONE),
            lambda: bands([]),
            lambda: bands([(3, ONE)]),
            lambda: summed(bend, EVERYWHERE_NOUGHT),
            lambda: summed(EVERYWHERE_NOUGHT, bend),
            lambda: scaled(bend, ONE),
            lambda: floored(bend),
            lambda: after(bend, itself),
            lambda: after(itself, bend),
        ]:
            first = call()
            told = list(first)
            first.clear()
            self.assertEqual(call(), told)
            call().append("more")
            self.assertEqual(call(), told)
        self.assertEqual((bend, itself), (kept, straight(NOUGHT, ONE)))
        self.assertEqual(EVERYWHERE_NOUGHT, [(NOUGHT, NOUGHT, NOUGHT)])

    def test_what_was_told_stays_when_what_was_handed_in_changes(self):
        bend = bend_through(4, [(0, -2), (1, 1), (3, 0)])
        pairs = [(3, ONE)]
        told = [bands(pairs), summed(bend, bend), scaled(bend, ONE), floored(bend), after(bend, bend)]
        kept = copy.deepcopy(told)
        bend.clear()
        pairs.clear()
        self.assertEqual(told, kept)


if __name__ == "__main__":
    unittest.main()
