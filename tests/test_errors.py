import unittest

from doletaper import errors
from doletaper.errors import HelpError, Jumps, NoRow, Tangled, Twice, Unknown, Widens

REFUSALS = [
    "NoAmount", "NoBend", "NoPerson", "Unknown", "Twice", "NoWord",
    "NoRow", "Tangled", "Jumps", "Widens", "TooMany", "NoNews",
]


class Standing(unittest.TestCase):
    def test_help_error_stands_straight_under_value_error(self):
        self.assertEqual(HelpError.__bases__, (ValueError,))

    def test_each_refusal_stands_straight_under_help_error(self):
        for name in REFUSALS:
            with self.subTest(name=name):
                self.assertEqual(getattr(errors, name).__bases__, (HelpError,))

    def test_no_refusal_stands_under_another_one(self):
        for name in REFUSALS:
            for other in REFUSALS:
                if name != other:
                    self.assertFalse(issubclass(getattr(errors, name), getattr(errors, other)), (name, other))

    def test_refusals_without_fields_are_made_with_words_or_none(self):
        for name in ["NoAmount", "NoBend", "NoPerson", "NoWord", "TooMany", "NoNews"]:
            for refusal in [getattr(errors, name)(), getattr(errors, name)("some words")]:
                self.assertIsInstance(refusal, HelpError)
                self.assertIsInstance(refusal, ValueError)


class Fields(unittest.TestCase):
    def test_title(self):
        self.assertEqual(Unknown("ann").title, "ann")
        self.assertEqual(Twice("bob").title, "bob")
        self.assertEqual(Twice("").title, "")

    def test_place(self):
        self.assertEqual(NoRow(0).place, 0)
        self.assertEqual(NoRow(299).place, 299)

    def test_titles(self):
        for made in [Tangled(["a", "b"]), Jumps(["a", "b"]), Widens(["a", "b"], (3, 2))]:
            self.assertEqual(made.titles, ["a", "b"])
            self.assertIs(type(made.titles), list)

    def test_pull(self):
        self.assertEqual(Widens(["a", "b"], (3, 2)).pull, (3, 2))

    def test_titles_are_kept_apart_from_the_list_handed_in(self):
        handed = ["a", "b"]
        made = [Tangled(handed), Jumps(handed), Widens(handed, (1, 1))]
        made[0].titles.append("x")
        self.assertEqual(handed, ["a", "b"])
        handed.clear()
        self.assertEqual([refusal.titles for refusal in made], [["a", "b", "x"], ["a", "b"], ["a", "b"]])

    def test_fields_are_there_when_a_refusal_is_caught_as_help_error(self):
        for refusal, field, value in [
            (Unknown("ann"), "title", "ann"),
            (Twice("ann"), "title", "ann"),
            (NoRow(4), "place", 4),
            (Tangled(["a"]), "titles", ["a"]),
            (Jumps(["a"]), "titles", ["a"]),
            (Widens(["a"], (1, 1)), "pull", (1, 1)),
        ]:
            with self.assertRaises(HelpError) as caught:
                raise refusal
            self.assertEqual(getattr(caught.exception, field), value)


if __name__ == "__main__":
    unittest.main()
