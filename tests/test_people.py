import copy
import unittest

from doletaper.errors import NoPerson
from doletaper.people import heads, is_name, pay_of, person, rent_of, with_pay
from support import ANN, BOB, CYD, DEE, OLD, is_whole

HOME = [ANN, BOB, CYD, DEE, OLD]
FAR = 10 ** 5000
NO_NUMBERS = [
    None, True, False, "", "5", "ann", b"5", 5.0, 0.0, [], [5], (), (5,), (5, 1), {}, {5}, object(), int,
]


class Names(unittest.TestCase):
    def test_names(self):
        for text in ["a", "z", "ann", "abcdefgh", "stuvwxyz", "ijklmnop", "qr", "zzzzzzzz"]:
            self.assertIs(is_name(text), True, text)

    def test_texts_that_are_none(self):
        for text in [
            "", "abcdefghi", "a" * 1000, "Ann", "ANN", "anN", "a b", " a", "a ", "a\n", "a1", "1", "a-b", "a_b", "`", "{",
            "a.b", "\u00e9", "\u00df", "\u0430", "\u0131", "\uff41", "\u00aa", "a\u0301", "a\0",
        ]:
            self.assertIs(is_name(text), False, text)

    def test_anything_else(self):
        for thing in [
            None, True, False, 0, 1, 5, -1, 1.5, b"ann", ["ann"], ["a"], ("a",), ("a", "n"), {"a": 1}, {"a"}, object(),
            str, [], (), {}, [["a"]],
        ]:
            self.assertIs(is_name(thing), False, thing)


class Persons(unittest.TestCase):
    def assert_refused(self, name, age, pay, rent):
        with self.subTest(name=str(name)[:20], kinds=[type(thing) for thing in (age, pay, rent)]):
            with self.assertRaises(NoPerson):
                person(name, age, pay, rent)

    def test_made(self):
        made = person("ann", 40, 1000, 300)
        self.assertEqual(made, ("ann", 40, 1000, 300))
        self.assertIs(type(made), tuple)
        self.assertTrue(all(is_whole(number) for number in made[1:]))

    def test_just_within(self):
        for name in ["a", "abcdefgh", "z"]:
            self.assertEqual(person(name, 1, 2, 3), (name, 1, 2, 3))
        for age in [0, 1, 149, 150]:
            self.assertEqual(person("a", age, 2, 3), ("a", age, 2, 3))
        for coins in [0, 1, 151, 10 ** 9 - 1, 10 ** 9]:
            self.assertEqual(person("a", 1, coins, 3), ("a", 1, coins, 3))
            self.assertEqual(person("a", 1, 2, coins), ("a", 1, 2, coins))

    def test_just_beyond(self):
        for name in ["", "abcdefghi", "A", "a1", "a ", "\u00e9"]:
            self.assert_refused(name, 1, 2, 3)
        for age in [-1, 151, -FAR, FAR]:
            self.assert_refused("a", age, 2, 3)
        for coins in [-1, 10 ** 9 + 1, -FAR, FAR]:
            self.assert_refused("a", 1, coins, 3)
            self.assert_refused("a", 1, 2, coins)

    def test_things_of_another_kind(self):
        for thing in [None, True, False, 5, 5.0, b"a", ["a"], ("a",), {"a": 1}, object()]:
            self.assert_refused(thing, 1, 2, 3)
        for thing in NO_NUMBERS:
            self.assert_refused("a", thing, 2, 3)
            self.assert_refused("a", 1, thing, 3)
            self.assert_refused("a", 1, 2, thing)

    def test_several_wrong_at_once(self):
        self.assert_refused(None, None, None, None)
        self.assert_refused("A", -1, True, "x")


class Homes(unittest.TestCase):
    def test_both_ages_are_with_them(self):
        self.assertEqual((heads(HOME, 17, 40), pay_of(HOME, 17, 40)), (3, 1075))
        self.assertEqual((heads(HOME, 18, 39), pay_of(HOME, 18, 39)), (1, 5))
        self.assertEqual((heads(HOME, 17, 17), pay_of(HOME, 17, 17)), (1, 70))
        self.assertEqual((heads(HOME, 18, 18), pay_of(HOME, 18, 18)), (1, 5))
        self.assertEqual((heads(HOME, 19, 39), pay_of(HOME, 19, 39)), (0, 0))
        self.assertEqual((heads(HOME, 0, 150), pay_of(HOME, 0, 150)), (5, 10 ** 9 + 1075))

    def test_edges_of_all_ages(self):
        self.assertEqual((heads(HOME, 0, 0), pay_of(HOME, 0, 0)), (1, 0))
        self.assertEqual((heads(HOME, 150, 150), pay_of(HOME, 150, 150)), (1, 10 ** 9))
        self.assertEqual((heads(HOME, 1, 149), pay_of(HOME, 1, 149)), (3, 1075))

    def test_first_age_above_the_second(self):
        for low, high in [(18, 17), (40, 17), (150, 0), (1, 0), (151, -1)]:
            self.assertEqual((heads(HOME, low, high), pay_of(HOME, low, high)), (0, 0))

    def test_ages_below_nought_and_far_above(self):
        self.assertEqual((heads(HOME, -5, 17), pay_of(HOME, -5, 17)), (2, 70))
        self.assertEqual((heads(HOME, 18, 999), pay_of(HOME, 18, 999)), (3, 10 ** 9 + 1005))
        self.assertEqual((heads(HOME, -FAR, FAR), pay_of(HOME, -FAR, FAR)), (5, 10 ** 9 + 1075))
        self.assertEqual((heads(HOME, -9, -1), pay_of(HOME, -9, -1)), (0, 0))
        self.assertEqual((heads(HOME, 151, 300), pay_of(HOME, 151, 300)), (0, 0))

    def test_rent_of_all(self):
        self.assertEqual(rent_of(HOME), 10 ** 9 + 325)
        self.assertEqual(rent_of([ANN]), 300)
        self.assertEqual(rent_of([BOB, DEE]), 0)

    def test_the_empty_home(self):
        self.assertEqual((heads([], 0, 150), pay_of([], 0, 150), rent_of([])), (0, 0, 0))

    def test_whole_numbers_are_told(self):
        for told in [heads(HOME, 0, 9), pay_of(HOME, 0, 9), rent_of(HOME), heads([], 0, 9), pay_of([], 0, 9), rent_of([])]:
            self.assertTrue(is_whole(told))

    def test_nothing_is_changed(self):
        home = copy.deepcopy(HOME)
        heads(home, 3, 90)
        pay_of(home, 3, 90)
        rent_of(home)
        self.assertEqual(home, HOME)


class OtherPay(unittest.TestCase):
    def test_that_one_is_paid_so_and_all_others_as_they_were(self):
        for place, (name, age, pay, rent) in enumerate(HOME):
            told = with_pay(HOME, name, 77)
            self.assertEqual(told, HOME[:place] + [(name, age, 77, rent)] + HOME[place + 1:])
            self.assertIs(type(told), list)
            self.assertTrue(all(type(who) is tuple for who in told))

    def test_bounds_of_the_pay(self):
        for pay in [0, 1, 10 ** 9 - 1, 10 ** 9]:
            self.assertEqual(with_pay([ANN, BOB], "bob", pay), [ANN, ("bob", 17, pay, 0)])

    def test_the_same_pay(self):
        self.assertEqual(with_pay(HOME, "ann", 1000), HOME)

    def test_a_name_that_nobody_bears(self):
        for home in [HOME, [ANN], []]:
            for name in ["eve", "an", "anna", "Ann", "", "a" * 99]:
                with self.subTest(home=home, name=name), self.assertRaises(NoPerson):
                    with_pay(home, name, 5)

    def test_a_pay_that_is_no_whole_number_within_bounds(self):
        for pay in NO_NUMBERS + [-1, 10 ** 9 + 1, -FAR, FAR]:
            with self.subTest(kind=type(pay)), self.assertRaises(NoPerson):
                with_pay(HOME, "ann", pay)

    def test_both_wrong(self):
        with self.assertRaises(NoPerson):
            with_pay(HOME, "eve", None)

    def test_ages_and_rents_somewhat_beyond_are_not_refused(self):
        home = [("ann", 151, 5, 10 ** 9 + 1), ("bob", 1, 10 ** 9 + 1, 0)]
        self.assertEqual(with_pay(home, "ann", 6), [("ann", 151, 6, 10 ** 9 + 1), ("bob", 1, 10 ** 9 + 1, 0)])

    def test_the_home_handed_in_stays_and_the_one_told_is_the_asker_s_own(self):
        home = list(HOME)
        told = with_pay(home, "ann", 1000)
        self.assertEqual(home, HOME)
        told.clear()
        self.assertEqual(home, HOME)
        told = with_pay(home, "ann", 7)
        self.assertEqual(home, HOME)
        home.clear()
        self.assertEqual(told, [("ann", 40, 7, 300)] + HOME[1:])


if __name__ == "__main__":
    unittest.main()
