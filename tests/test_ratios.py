import random
import unittest
from fractions import Fraction
from math import ceil, floor

from doletaper.errors import NoAmount
from doletaper.ratios import (
    below, ceil_of, divided, floor_of, fraction, greater, lesser, minus, plus, rounded, times,
)
from support import BIG, BIGGER, is_fraction, is_whole, number_of, pair_of

SOME = [
    (0, 1), (1, 1), (-1, 1), (3, 1), (-3, 1), (1, 2), (-1, 2), (1, 3), (-2, 3), (7, 2), (-7, 2), (50, 1), (-50, 1),
    (99, 100), (-99, 100), (BIG, 1), (-BIG, 1), (1, BIG), (-1, BIG),
    pair_of(Fraction(BIG, BIGGER)), pair_of(Fraction(-BIGGER, BIG)), pair_of(Fraction(BIG, 2)),
]


class RatioCase(unittest.TestCase):
    def assert_told(self, told, number):
        self.assertTrue(is_fraction(told), told)
        self.assertEqual(told, pair_of(number))


class Made(RatioCase):
    def test_every_sign(self):
        self.assertEqual(fraction(6, 4), (3, 2))
        self.assertEqual(fraction(-6, 4), (-3, 2))
        self.assertEqual(fraction(6, -4), (-3, 2))
        self.assertEqual(fraction(-6, -4), (3, 2))

    def test_whole_and_nought_have_bottom_one(self):
        self.assertEqual(fraction(3, 1), (3, 1))
        self.assertEqual(fraction(6, 2), (3, 1))
        self.assertEqual(fraction(-6, 2), (-3, 1))
        for bottom in [1, -1, 7, -7, BIG, -BIG]:
            self.assertEqual(fraction(0, bottom), (0, 1))

    def test_form_over_many(self):
        tops = list(range(-24, 25)) + [BIG, -BIG, BIG * 6]
        bottoms = [number for number in range(-24, 25) if number] + [BIGGER, -BIGGER, BIG * 4]
        for top in tops:
            for bottom in bottoms:
                self.assert_told(fraction(top, bottom), Fraction(top, bottom))

    def test_bottom_nought_is_refused(self):
        for top in [0, 1, -1, BIG, -BIG]:
            with self.assertRaises(NoAmount):
                fraction(top, 0)


class Reckoned(RatioCase):
    def test_ordinary(self):
        self.assertEqual(plus((1, 2), (1, 3)), (5, 6))
        self.assertEqual(minus((1, 2), (1, 3)), (1, 6))
        self.assertEqual(times((2, 3), (3, 4)), (1, 2))
        self.assertEqual(divided((1, 2), (3, 4)), (2, 3))

    def test_results_in_lowest_terms(self):
        self.assertEqual(plus((1, 2), (1, 2)), (1, 1))
        self.assertEqual(plus((1, 2), (-1, 2)), (0, 1))
        self.assertEqual(minus((7, 2), (1, 2)), (3, 1))
        self.assertEqual(times((-3, 2), (2, 3)), (-1, 1))
        self.assertEqual(divided((1, 2), (-1, 2)), (-1, 1))
        self.assertEqual(divided((-1, 2), (-3, 2)), (1, 3))
        self.assertEqual(divided((0, 1), (-3, 2)), (0, 1))

    def test_over_many(self):
        for one in SOME:
            for other in SOME:
                first, second = number_of(one), number_of(other)
                self.assert_told(plus(one, other), first + second)
                self.assert_told(minus(one, other), first - second)
                self.assert_told(times(one, other), first * second)
                if second:
                    self.assert_told(divided(one, other), first / second)

    def test_divided_by_nought_is_refused(self):
        for one in SOME:
            with self.assertRaises(NoAmount):
                divided(one, (0, 1))


class Compared(RatioCase):
    def test_below(self):
        for one in SOME:
            for other in SOME:
                self.assertIs(below(one, other), number_of(one) < number_of(other))

    def test_lesser_and_greater(self):
        for one in SOME:
            for other in SOME:
                self.assert_told(lesser(one, other), min(number_of(one), number_of(other)))
                self.assert_told(greater(one, other), max(number_of(one), number_of(other)))

    def test_equal_ones(self):
        self.assertIs(below((1, 2), (1, 2)), False)
        self.assertEqual(lesser((1, 2), (1, 2)), (1, 2))
        self.assertEqual(greater((1, 2), (1, 2)), (1, 2))


class Whole(RatioCase):
    def test_just_not_above_and_just_not_below(self):
        for one, low, high in [
            ((7, 2), 3, 4), ((-7, 2), -4, -3), ((3, 1), 3, 3), ((-3, 1), -3, -3),
            ((0, 1), 0, 0), ((1, 100), 0, 1), ((-1, 100), -1, 0), ((99, 100), 0, 1), ((-99, 100), -1, 0),
        ]:
            self.assertEqual((floor_of(one), ceil_of(one)), (low, high))

    def test_over_many(self):
        for one in SOME:
            self.assertEqual(floor_of(one), floor(number_of(one)))
            self.assertEqual(ceil_of(one), ceil(number_of(one)))
            self.assertTrue(is_whole(floor_of(one)) and is_whole(ceil_of(one)))


class Rounded(RatioCase):
    def test_either_sign(self):
        for one, unit, down, up, near in [
            ((47, 1), 50, 0, 50, 50),
            ((-47, 1), 50, -50, 0, -50),
            ((24, 1), 50, 0, 50, 0),
            ((-24, 1), 50, -50, 0, 0),
            ((149, 2), 50, 50, 100, 50),
            ((151, 2), 50, 50, 100, 100),
            ((-149, 2), 50, -100, -50, -50),
            ((-151, 2), 50, -100, -50, -100),
            ((1, 3), 1, 0, 1, 0),
            ((2, 3), 1, 0, 1, 1),
            ((-1, 3), 1, -1, 0, 0),
            ((-2, 3), 1, -1, 0, -1),
        ]:
            self.assertEqual(rounded(one, unit, "down"), (down, 1), (one, unit))
            self.assertEqual(rounded(one, unit, "up"), (up, 1), (one, unit))
            self.assertEqual(rounded(one, unit, "near"), (near, 1), (one, unit))

    def test_whole_multiples_stay(self):
        for unit in [1, 2, 50, 10 ** 9, BIG]:
            for many in [-2, -1, 0, 1, 3]:
                for way in ["down", "up", "near"]:
                    self.assertEqual(rounded((unit * many, 1), unit, way), (unit * many, 1))

    def test_half_a_unit_off_the_greater_one_is_near(self):
        for unit in [1, 2, 5, 50, 10 ** 9, BIG]:
            for many in [-2, -1, 0, 1, 3]:
                half = pair_of(Fraction(unit * (2 * many + 1), 2))
                self.assertEqual(rounded(half, unit, "near"), (unit * (many + 1), 1))
                self.assertEqual(rounded(half, unit, "down"), (unit * many, 1))
                self.assertEqual(rounded(half, unit, "up"), (unit * (many + 1), 1))

    def test_just_beside_half_a_unit(self):
        least = Fraction(1, BIG)
        for half in [Fraction(25), Fraction(-25), Fraction(75), Fraction(-75)]:
            self.assertEqual(rounded(pair_of(half - least), 50, "near"), (int(half) - 25, 1))
            self.assertEqual(rounded(pair_of(half + least), 50, "near"), (int(half) + 25, 1))

    def test_over_many(self):
        chance = random.Random(6)
        numbers = [number_of(one) for one in SOME]
        numbers += [Fraction(chance.randint(-999, 999), chance.randint(1, 60)) for turn in range(300)]
        for number in numbers:
            for unit in [1, 2, 3, 7, 10, 50, BIG]:
                multiple = floor(number / unit) * unit
                up = multiple if multiple == number else multiple + unit
                near = multiple if number - multiple < multiple + unit - number else multiple + unit
                self.assert_told(rounded(pair_of(number), unit, "down"), multiple)
                self.assert_told(rounded(pair_of(number), unit, "up"), up)
                self.assert_told(rounded(pair_of(number), unit, "near"), near)


if __name__ == "__main__":
    unittest.main()
