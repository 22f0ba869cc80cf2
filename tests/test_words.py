import random
import unittest
from fractions import Fraction
from math import gcd

from doletaper.errors import NoWord
from doletaper.words import name_read, rate_read, rate_shown, whole_read
from support import BIG, BIGGER, is_fraction, is_whole, pair_of

SIGNS = [chr(number) for number in range(ord(" "), ord("~") + 1)]
FIGURES = "0123456789"
LETTERS = "abcdefghijklmnopqrstuvwxyz"
NO_WHOLES = [
    "", " ", "00", "01", "000", "007", "0000000000", "0123456789", "-1", "-0", "+1", "+0", " 1", "1 ", "1 2", "1_0",
    "1,0", "1.0", "1.", ".1", "1e3", "0x1", "a", "1a", "a1", "o", "O", "/", "1/2", "1/1", "(1)", "--1", "~", "None",
    "ann",
]
NO_RATES = [
    "", " ", "/", "1/", "/2", "/1", "//", "1//2", "1/2/3", "1/2/", "/1/2", "0/1", "0/2", "0/3", "0/9999", "0/0", "1/0",
    "1/1", "2/1", "5/1", "9999/1", "2/2", "2/4", "4/2", "10/4", "3/9", "6/4", "9999/9999", "9998/2", "01/2", "1/02",
    "001/2", "1/002", "00/2", "00", "01", "-1/2", "1/-2", "-1", "-0", "+1", "+1/2", "1/+2", " 1/2", "1/2 ", "1 /2",
    "1/ 2", "1 / 2", "1 2", "10000", "10001", "10000/3", "10001/2", "1/10000", "1/10001", "9999999999", "1/9999999999",
    "99999999999", "1.5", "1.5/2", "1e3", "a", "a/b", "1/a", "a/2", "1:2", "1\\2", "1%", "1/2a", "0x1/2", "1_0/3",
]


class WordCase(unittest.TestCase):
    def assert_no_word(self, asked, text):
        with self.assertRaises(NoWord, msg=repr(text)) as caught:
            asked(text)
        self.assertIs(type(caught.exception), NoWord)


class Wholes(WordCase):
    def test_written(self):
        for number in [0, 1, 7, 9, 10, 100, 101, 909, 1234567890, 9999, 10 ** 9, 9999999999, 1000000000]:
            told = whole_read(str(number), 10 ** 10)
            self.assertEqual(told, number)
            self.assertTrue(is_whole(told))

    def test_all_of_three_figures_or_less(self):
        for number in range(1000):
            self.assertEqual(whole_read(str(number), 999), number)

    def test_one_to_ten_figures(self):
        for many in range(1, 11):
            self.assertEqual(whole_read("9" * many, 10 ** 20), 10 ** many - 1)
            self.assertEqual(whole_read("1" + "0" * (many - 1), 10 ** 20), 10 ** (many - 1))
        for many in [11, 12, 20, 300, 5000]:
            self.assert_no_word(lambda text: whole_read(text, 10 ** 6000), "9" * many)
            self.assert_no_word(lambda text: whole_read(text, 10 ** 6000), "1" + "0" * (many - 1))

    def test_no_nought_ahead_but_in_nought_itself(self):
        self.assertEqual(whole_read("0", 5), 0)
        for text in ["00", "000", "01", "010", "0000000000", "0000000001", "00000000001"]:
            self.assert_no_word(lambda word: whole_read(word, 10 ** 9), text)

    def test_not_above_the_most(self):
        for most in [0, 1, 9, 10, 60, 150, 9999, 10 ** 9, 9999999998]:
            self.assertEqual(whole_read(str(most), most), most)
            self.assertEqual(whole_read("0", most), 0)
            self.assert_no_word(lambda text: whole_read(text, most), str(most + 1))
            self.assert_no_word(lambda text: whole_read(text, most), "9999999999")

    def test_a_most_of_any_size(self):
        for most in [9999999999, 10 ** 10, 10 ** 30, BIG]:
            self.assertEqual(whole_read("9999999999", most), 9999999999)
            self.assert_no_word(lambda text: whole_read(text, most), "10000000000")

    def test_texts_that_write_none(self):
        for most in [0, 9, 10 ** 9, 10 ** 30]:
            for text in NO_WHOLES:
                self.assert_no_word(lambda word: whole_read(word, most), text)

    def test_every_sign_alone_and_beside_a_figure(self):
        for sign in SIGNS:
            for text in [sign, "1" + sign, sign + "1", "1" + sign + "1"]:
                if sign in FIGURES and (sign != "0" or text[0] != "0" or text == "0"):
                    self.assertEqual(whole_read(text, 999), int(text))
                else:
                    self.assert_no_word(lambda word: whole_read(word, 999), text)

    def test_figures_of_other_scripts_write_none(self):
        for text in ["\u0661", "\u00b2", "1\u0660", "\uff11", "\u2460", "1\n", "\t1"]:
            self.assert_no_word(lambda word: whole_read(word, 999), text)


class Rates(WordCase):
    def test_whole_ones(self):
        for number in [0, 1, 2, 10, 999, 1000, 9998, 9999]:
            self.assertEqual(rate_read(str(number)), (number, 1))
        for number in [10000, 10001, 99999, 10 ** 9]:
            self.assert_no_word(rate_read, str(number))

    def test_top_and_bottom(self):
        for text, rate in [
            ("1/2", (1, 2)), ("3/2", (3, 2)), ("2/3", (2, 3)), ("1/9999", (1, 9999)), ("9999/2", (9999, 2)),
            ("9998/9999", (9998, 9999)), ("9999/9998", (9999, 9998)), ("100/3", (100, 3)), ("3/100", (3, 100)),
        ]:
            told = rate_read(text)
            self.assertEqual(told, rate)
            self.assertTrue(is_fraction(told))

    def test_every_small_top_and_bottom(self):
        for top in range(40):
            for bottom in range(40):
                text = f"{top}/{bottom}"
                if bottom >= 2 and gcd(top, bottom) == 1:
                    self.assertEqual(rate_read(text), (top, bottom))
                else:
                    self.assert_no_word(rate_read, text)

    def test_nought_is_written_by_0_alone(self):
        self.assertEqual(rate_read("0"), (0, 1))
        for text in ["0/1", "0/2", "0/9999", "00", "0/0", "-0", "0/"]:
            self.assert_no_word(rate_read, text)

    def test_texts_that_write_none(self):
        for text in NO_RATES:
            self.assert_no_word(rate_read, text)

    def test_every_sign_beside_a_rate(self):
        for sign in SIGNS:
            if sign not in FIGURES:
                for text in [sign, sign + "1/2", "1/2" + sign, "1/" + sign + "2", "1" + sign + "/2"]:
                    self.assert_no_word(rate_read, text)

    def test_what_was_read_is_shown_as_it_was_written(self):
        for text in ["0", "1", "9999", "1/2", "3/2", "9998/9999", "9999/2"]:
            self.assertEqual(rate_shown(rate_read(text)), text)


class Shown(WordCase):
    def test_whole_ones(self):
        for one, text in [
            ((0, 1), "0"), ((3, 1), "3"), ((-3, 1), "-3"), ((10 ** 9, 1), "1000000000"), ((10000, 1), "10000"),
        ]:
            self.assertEqual(rate_shown(one), text)

    def test_top_and_bottom(self):
        for one, text in [((1, 2), "1/2"), ((-1, 2), "-1/2"), ((15, 2), "15/2"), ((-10001, 10000), "-10001/10000")]:
            self.assertEqual(rate_shown(one), text)

    def test_of_any_size(self):
        for number in [Fraction(BIG), Fraction(-BIG), Fraction(BIG, BIGGER), Fraction(-BIGGER, BIG), Fraction(1, BIG)]:
            top, bottom = pair_of(number)
            self.assertEqual(rate_shown((top, bottom)), str(top) if bottom == 1 else str(top) + "/" + str(bottom))
        many = 10 ** 3999 + 1
        self.assertEqual(rate_shown((-many, 10 ** 3999)), "-1" + "0" * 3998 + "1/1" + "0" * 3999)

    def test_read_again_where_it_is_a_rate(self):
        chance = random.Random(17)
        for turn in range(400):
            rate = Fraction(chance.randint(0, 9999), chance.randint(1, 9999))
            self.assertEqual(rate_read(rate_shown(pair_of(rate))), pair_of(rate))

    def test_a_text_is_told(self):
        for one in [(0, 1), (-1, 2), (BIG, 1)]:
            self.assertIs(type(rate_shown(one)), str)


class Names(WordCase):
    def test_as_it_is(self):
        for text in ["a", "z", "ann", "abcdefgh", "stuvwxyz", "ijklmnop", "qr", "zzzzzzzz", "base", "kind"]:
            self.assertEqual(name_read(text), text)
            self.assertIs(type(name_read(text)), str)

    def test_texts_that_write_none(self):
        for text in [
            "", " ", "abcdefghi", "a" * 1000, "Ann", "ANN", "anN", "a b", " a", "a ", "a1", "1", "a-b", "a_b", "a/b",
        ]:
            self.assert_no_word(name_read, text)

    def test_every_sign_alone_and_beside_a_letter(self):
        for sign in SIGNS:
            for text in [sign, "a" + sign, sign + "a"]:
                if sign in LETTERS:
                    self.assertEqual(name_read(text), text)
                else:
                    self.assert_no_word(name_read, text)


if __name__ == "__main__":
    unittest.main()
