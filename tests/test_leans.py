import random
import unittest

from doletaper.errors import HelpError, Unknown
from doletaper.kinds import Cap, Office
from doletaper.leans import leads_to, leans
from doletaper.reading import read, rows_of
from support import HALF, NOUGHT, ONE, bare, office_of, random_counts, random_rows, reached

COUNTS = {"rent": ["zed", "abc"], "food": [], "zed": ["rent"], "abc": ["food", "abc"], "b": ["zed", "food"]}


class Leans(unittest.TestCase):
    def test_the_titles_that_each_kind_counts(self):
        told = leans(office_of(COUNTS))
        self.assertIs(type(told), dict)
        self.assertEqual(told, COUNTS)
        self.assertTrue(all(type(titles) is list for titles in told.values()))

    def test_in_the_order_of_the_office_and_of_the_rows(self):
        self.assertEqual(list(leans(office_of(COUNTS)).items()), list(COUNTS.items()))
        turned = {title: COUNTS[title][::-1] for title in reversed(COUNTS)}
        self.assertEqual(list(leans(office_of(turned)).items()), list(turned.items()))

    def test_of_an_office_without_kinds(self):
        self.assertEqual(leans(Office([], [])), {})

    def test_at_whatever_rate(self):
        office = Office([bare(title="a", counts=[("b", NOUGHT), ("a", HALF)]), bare(title="b")], [])
        self.assertEqual(leans(office), {"a": ["b", "a"], "b": []})

    def test_caps_and_other_rows_say_nothing(self):
        office = read(["kind a", "pay 1 0 9", "off 5 1", "until 9", "kind b", "counts a 1", "cap 1 1 a b"])
        self.assertEqual(leans(office), {"a": [], "b": ["a"]})

    def test_over_many(self):
        chance = random.Random(25)
        for turn in range(100):
            counts = random_counts(chance)
            self.assertEqual(list(leans(office_of(counts)).items()), list(counts.items()))


class Leads(unittest.TestCase):
    def test_by_going_once_or_more(self):
        office = office_of(COUNTS)
        self.assertEqual(leads_to(office, "food"), [])
        self.assertEqual(leads_to(office, "abc"), ["abc", "food"])
        self.assertEqual(leads_to(office, "rent"), ["abc", "food", "rent", "zed"])
        self.assertEqual(leads_to(office, "zed"), ["abc", "food", "rent", "zed"])
        self.assertEqual(leads_to(office, "b"), ["abc", "food", "rent", "zed"])

    def test_sorted(self):
        office = office_of({"a": ["zed", "m", "b"], "zed": ["c"], "m": [], "b": [], "c": []})
        self.assertEqual(leads_to(office, "a"), ["b", "c", "m", "zed"])
        self.assertIs(type(leads_to(office, "a")), list)

    def test_the_kind_itself_just_where_one_comes_back(self):
        self.assertEqual(leads_to(office_of({"a": []}), "a"), [])
        self.assertEqual(leads_to(office_of({"a": ["a"]}), "a"), ["a"])
        ring = office_of({"a": ["b"], "b": ["c"], "c": ["a"], "d": ["a"]})
        self.assertEqual(leads_to(ring, "a"), ["a", "b", "c"])
        self.assertEqual(leads_to(ring, "d"), ["a", "b", "c"])
        self.assertEqual(leads_to(office_of({"a": ["b"], "b": ["b"]}), "a"), ["b"])

    def test_a_long_way(self):
        titles = ["a", "b", "c", "d", "e", "f", "g", "h"]
        office = office_of({title: titles[at + 1:at + 2] for at, title in enumerate(titles)})
        for at, title in enumerate(titles):
            self.assertEqual(leads_to(office, title), titles[at + 1:])

    def test_at_a_rate_of_nought_too(self):
        office = Office([bare(title="a", counts=[("b", NOUGHT)]), bare(title="b", counts=[("a", ONE)])], [])
        self.assertEqual(leads_to(office, "a"), ["a", "b"])

    def test_over_many(self):
        chance = random.Random(26)
        for turn in range(150):
            counts = random_counts(chance)
            office = office_of(counts)
            for title, others in reached(counts).items():
                self.assertEqual(leads_to(office, title), sorted(others))

    def test_a_title_that_no_kind_bears(self):
        for office in [office_of(COUNTS), Office([], []), Office([bare(title="a")], [Cap(1, 1, ["nobody"])])]:
            for title in ["nobody", "", "ren", "rents", "Rent", "a b"]:
                with self.assertRaises(HelpError) as caught:
                    leads_to(office, title)
                self.assertIs(type(caught.exception), Unknown)
                self.assertEqual(caught.exception.title, title)


class Own(unittest.TestCase):
    def test_nothing_handed_in_is_changed(self):
        chance = random.Random(2)
        for turn in range(30):
            rows = random_rows(chance)
            office = read(rows)
            leans(office)
            for title in office.named():
                leads_to(office, title)
            self.assertEqual(rows_of(office), rows)

    def test_what_is_told_is_the_asker_s_own(self):
        office = office_of(COUNTS)
        told, led = leans(office), leads_to(office, "rent")
        told["rent"].clear()
        told["food"].append("zed")
        told.pop("zed")
        led.clear()
        self.assertEqual(leans(office), COUNTS)
        self.assertEqual(leads_to(office, "rent"), ["abc", "food", "rent", "zed"])
        self.assertEqual(office.kind("rent").counts, [("zed", ONE), ("abc", ONE)])
        again = leans(office)
        leans(office)["rent"].clear()
        leads_to(office, "b").clear()
        self.assertEqual(again, COUNTS)


if __name__ == "__main__":
    unittest.main()
