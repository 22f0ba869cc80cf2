import copy
import itertools
import random
import unittest
from fractions import Fraction

from doletaper.parts import Base, Each, From, Part, Rent, Term, Upto
from support import ANN, BOB, CYD, DEE, OLD, is_fraction, number_of, pair_of

HOME = [ANN, BOB, CYD, DEE, OLD]
SMALL = [ANN, BOB, CYD]
HOMES = [[], [ANN], [BOB], SMALL, [BOB, DEE], HOME]
NOUGHT = (0, 1)
CLASSES = [Part, Base, Each, Rent, Term, From, Upto]


class Standing(unittest.TestCase):
    def test_each_stands_as_told_and_no_other_way(self):
        under = {(Base, Part), (Each, Part), (Rent, Part), (From, Term), (Upto, Term)}
        for one, other in itertools.permutations(CLASSES, 2):
            self.assertEqual(issubclass(one, other), (one, other) in under, (one, other))


class Fields(unittest.TestCase):
    def assert_fields(self, thing, **wanted):
        for name, value in wanted.items():
            self.assertEqual(getattr(thing, name), value)

    def test_by_the_names_of_what_is_handed_in(self):
        self.assert_fields(Base(7), amount=7)
        self.assert_fields(Each(7, 3, 90), amount=7, low=3, high=90)
        self.assert_fields(Rent((2, 3), 500), rate=(2, 3), most=500)
        self.assert_fields(From(2, 3, 90), many=2, low=3, high=90)
        self.assert_fields(Upto(2, 3, 90), many=2, low=3, high=90)

    def test_handed_in_by_name(self):
        self.assertEqual(Base(amount=7).row(), "base 7")
        self.assertEqual(Each(high=90, low=3, amount=7).row(), "each 7 3 90")
        self.assertEqual(Rent(most=500, rate=(2, 3)).row(), "rent 2/3 500")
        self.assertEqual(From(high=90, low=3, many=2).row(), "from 2 3 90")
        self.assertEqual(Upto(high=90, low=3, many=2).row(), "upto 2 3 90")


class Worths(unittest.TestCase):
    def assert_worth(self, part, home, wanted):
        told = part.worth(home)
        self.assertTrue(is_fraction(told), told)
        self.assertEqual(told, wanted)

    def test_bare(self):
        for home in HOMES:
            self.assert_worth(Part(), home, NOUGHT)

    def test_base_is_its_amount_whatever_the_home(self):
        for home in HOMES:
            for amount in [0, 1, 7, 10 ** 9]:
                self.assert_worth(Base(amount), home, (amount, 1))

    def test_each_is_its_amount_for_every_head_of_its_ages(self):
        self.assert_worth(Each(7, 0, 150), HOME, (35, 1))
        self.assert_worth(Each(7, 17, 40), HOME, (21, 1))
        self.assert_worth(Each(7, 18, 39), HOME, (7, 1))
        self.assert_worth(Each(7, 19, 39), HOME, NOUGHT)
        self.assert_worth(Each(7, 17, 17), HOME, (7, 1))
        self.assert_worth(Each(7, 0, 0), HOME, (7, 1))
        self.assert_worth(Each(7, 150, 150), HOME, (7, 1))
        self.assert_worth(Each(10 ** 9, 0, 150), HOME, (5 * 10 ** 9, 1))
        self.assert_worth(Each(0, 0, 150), HOME, NOUGHT)
        self.assert_worth(Each(7, 0, 150), [], NOUGHT)

    def test_each_with_its_first_age_above_the_second(self):
        self.assert_worth(Each(7, 18, 17), HOME, NOUGHT)
        self.assert_worth(Each(7, 150, 0), HOME, NOUGHT)

    def test_rent_is_the_lesser_of_its_rate_times_the_rent_and_its_most(self):
        self.assert_worth(Rent((1, 2), 500), SMALL, (325, 2))
        self.assert_worth(Rent((1, 2), 163), SMALL, (325, 2))
        self.assert_worth(Rent((1, 2), 162), SMALL, (162, 1))
        self.assert_worth(Rent((2, 5), 130), SMALL, (130, 1))
        self.assert_worth(Rent((2, 5), 129), SMALL, (129, 1))
        self.assert_worth(Rent((2, 5), 131), SMALL, (130, 1))
        self.assert_worth(Rent((3, 1), 1000), SMALL, (975, 1))
        self.assert_worth(Rent((1, 3), 10 ** 9), [ANN], (100, 1))

    def test_rent_of_nought(self):
        self.assert_worth(Rent(NOUGHT, 500), SMALL, NOUGHT)
        self.assert_worth(Rent((1, 2), 0), SMALL, NOUGHT)
        self.assert_worth(Rent((1, 2), 500), [], NOUGHT)
        self.assert_worth(Rent((1, 2), 500), [BOB, DEE], NOUGHT)

    def test_rent_at_the_bounds(self):
        self.assert_worth(Rent((9999, 1), 10 ** 9), [OLD], (10 ** 9, 1))
        self.assert_worth(Rent((1, 9999), 10 ** 9), [OLD], (10 ** 9, 9999))
        self.assert_worth(Rent((9998, 9999), 10 ** 9), [OLD], (9998 * 10 ** 9, 9999))

    def test_rent_over_many(self):
        chance = random.Random(18)
        for turn in range(200):
            rate = Fraction(chance.randint(0, 20), chance.randint(1, 20))
            most = chance.randint(0, 900)
            rents = [chance.randint(0, 400) for person in range(chance.randint(0, 5))]
            home = [("abcde"[place], 1, 2, rent) for place, rent in enumerate(rents)]
            told = Rent(pair_of(rate), most).worth(home)
            self.assertTrue(is_fraction(told))
            self.assertEqual(number_of(told), min(rate * sum(rents), Fraction(most)))


class Met(unittest.TestCase):
    def test_bare(self):
        for home in HOMES:
            self.assertIs(Term().met(home), True)

    def test_from_where_the_heads_are_at_least_so_many(self):
        for many, wanted in [(0, True), (1, True), (2, True), (3, True), (4, False), (60, False)]:
            self.assertIs(From(many, 17, 40).met(HOME), wanted, many)

    def test_upto_where_the_heads_are_at_most_so_many(self):
        for many, wanted in [(0, False), (1, False), (2, False), (3, True), (4, True), (60, True)]:
            self.assertIs(Upto(many, 17, 40).met(HOME), wanted, many)

    def test_both_ages_are_with_them(self):
        for low, high, heads in [(17, 17, 1), (18, 39, 1), (18, 40, 2), (19, 39, 0), (0, 150, 5), (1, 149, 3)]:
            for many in range(7):
                self.assertIs(From(many, low, high).met(HOME), heads >= many, (many, low, high))
                self.assertIs(Upto(many, low, high).met(HOME), heads <= many, (many, low, high))

    def test_the_empty_home(self):
        self.assertIs(From(0, 0, 150).met([]), True)
        self.assertIs(From(1, 0, 150).met([]), False)
        self.assertIs(Upto(0, 0, 150).met([]), True)
        self.assertIs(Upto(1, 0, 150).met([]), True)

    def test_the_first_age_above_the_second(self):
        self.assertIs(From(1, 18, 17).met(HOME), False)
        self.assertIs(From(0, 18, 17).met(HOME), True)
        self.assertIs(Upto(0, 18, 17).met(HOME), True)


class Rows(unittest.TestCase):
    def test_bare(self):
        self.assertEqual(Part().row(), "")
        self.assertEqual(Term().row(), "")

    def test_parts(self):
        for part, row in [
            (Base(0), "base 0"), (Base(150), "base 150"), (Base(10 ** 9), "base 1000000000"),
            (Each(20, 0, 17), "each 20 0 17"), (Each(0, 150, 150), "each 0 150 150"),
            (Each(10 ** 9, 0, 0), "each 1000000000 0 0"),
            (Rent((1, 2), 300), "rent 1/2 300"), (Rent((3, 1), 0), "rent 3 0"), (Rent(NOUGHT, 7), "rent 0 7"),
            (Rent((9998, 9999), 10 ** 9), "rent 9998/9999 1000000000"),
        ]:
            self.assertEqual(part.row(), row)
            self.assertIs(type(part.row()), str)

    def test_terms(self):
        for term, row in [
            (From(1, 0, 17), "from 1 0 17"), (From(0, 0, 0), "from 0 0 0"), (From(60, 18, 150), "from 60 18 150"),
            (Upto(1, 0, 17), "upto 1 0 17"), (Upto(0, 0, 0), "upto 0 0 0"), (Upto(60, 18, 150), "upto 60 18 150"),
        ]:
            self.assertEqual(term.row(), row)
            self.assertIs(type(term.row()), str)


class Own(unittest.TestCase):
    def test_the_home_handed_in_stays(self):
        home = copy.deepcopy(HOME)
        for part in [Part(), Base(7), Each(7, 3, 90), Rent((2, 3), 500)]:
            part.worth(home)
        for term in [Term(), From(2, 3, 90), Upto(2, 3, 90)]:
            term.met(home)
        self.assertEqual(home, HOME)

    def test_asking_changes_nothing_that_is_told_later(self):
        for part in [Part(), Base(7), Each(7, 3, 90), Rent((2, 3), 500)]:
            first = [part.row(), [part.worth(home) for home in HOMES], part.row()]
            self.assertEqual([part.row(), [part.worth(home) for home in HOMES], part.row()], first)
        for term in [Term(), From(2, 3, 90), Upto(2, 3, 90)]:
            first = [term.row(), [term.met(home) for home in HOMES], term.row()]
            self.assertEqual([term.row(), [term.met(home) for home in HOMES], term.row()], first)

    def test_a_home_that_is_changed_behind_a_question_is_asked_as_it_is_then(self):
        home = [ANN]
        part, term = Each(7, 0, 150), From(2, 0, 150)
        self.assertEqual((part.worth(home), term.met(home)), ((7, 1), False))
        home.append(BOB)
        self.assertEqual((part.worth(home), term.met(home)), ((14, 1), True))

    def test_two_have_nothing_to_do_with_one_another(self):
        one, other = Base(7), Base(8)
        self.assertEqual((one.worth([]), other.worth([])), ((7, 1), (8, 1)))
        low, high = From(1, 0, 17), From(2, 18, 150)
        self.assertEqual((low.row(), high.row()), ("from 1 0 17", "from 2 18 150"))


if __name__ == "__main__":
    unittest.main()
