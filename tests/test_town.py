import copy
import itertools
import random
import unittest

from doletaper.errors import HelpError, Twice, Unknown
from doletaper.town import Town
from support import ANN, BOB, CYD, DEE, OLD

ALL = [ANN, BOB, CYD, DEE, OLD]
NAMES = ["ann", "bob", "cyd", "dee", "old"]
PAIRS = [("cyd", "ann"), ("old", "dee")]


def spelled(number):
    """A name of five letters that no other number has; names rise as numbers do."""
    letters = ""
    for turn in range(5):
        letters = chr(ord("a") + number % 26) + letters
        number //= 26
    return letters


def some_people(chance, many):
    return [
        (spelled(number), chance.randint(0, 150), chance.randint(0, 10 ** 9), chance.randint(0, 10 ** 9))
        for number in chance.sample(range(26 ** 3), many)
    ]


def groups_of(names, pairs):
    """Who lives with whom, reckoned apart: all begin alone, and each pair makes one group of two."""
    group = {name: {name} for name in names}
    for one, other in pairs:
        together = group[one] | group[other]
        for name in together:
            group[name] = together
    return group


class TownCase(unittest.TestCase):
    def assert_refused(self, error, title, asked):
        with self.assertRaises(HelpError) as caught:
            asked()
        self.assertIs(type(caught.exception), error)
        self.assertEqual(caught.exception.title, title)

    def assert_chain(self, chain, one, other, pairs):
        self.assertIs(type(chain), list)
        self.assertEqual((chain[0], chain[-1]), (one, other))
        self.assertEqual(len(set(chain)), len(chain), chain)
        for here, there in zip(chain, chain[1:]):
            self.assertTrue((here, there) in pairs or (there, here) in pairs, (chain, here, there))

    def assert_town(self, people, pairs):
        """All that the town tells is so, held against groups that are reckoned apart."""
        town = Town(people, pairs)
        by_name = {who[0]: who for who in people}
        names = sorted(by_name)
        group = groups_of(names, pairs)
        homes = {frozenset(members) for members in group.values()}
        homes = sorted([by_name[name] for name in sorted(members)] for members in homes)
        self.assertEqual(town.names(), names)
        self.assertEqual(town.homes(), homes)
        for one in names:
            self.assertEqual(town.home(one), [by_name[name] for name in sorted(group[one])])
            for other in names:
                chain = town.chain(one, other)
                if other in group[one]:
                    self.assert_chain(chain, one, other, pairs)
                else:
                    self.assertIsNone(chain)


class Made(TownCase):
    def test_nobody(self):
        town = Town([], [])
        self.assertEqual((town.names(), town.homes()), ([], []))
        self.assert_refused(Unknown, "ann", lambda: town.home("ann"))
        self.assert_refused(Unknown, "ann", lambda: town.chain("ann", "ann"))

    def test_no_pairs(self):
        town = Town([BOB, ANN], [])
        self.assertEqual(town.names(), ["ann", "bob"])
        self.assertEqual(town.homes(), [[ANN], [BOB]])
        self.assertEqual(town.home("bob"), [BOB])
        self.assertIsNone(town.chain("ann", "bob"))

    def test_ordinary(self):
        town = Town(ALL, PAIRS)
        self.assertEqual(town.homes(), [[ANN, CYD], [BOB], [DEE, OLD]])

    def test_persons_in_any_order(self):
        for people in itertools.permutations(ALL):
            town = Town(list(people), PAIRS)
            self.assertEqual(town.names(), NAMES)
            self.assertEqual(town.homes(), [[ANN, CYD], [BOB], [DEE, OLD]])
            self.assertEqual(town.home("old"), [DEE, OLD])

    def test_pairs_in_any_order_and_either_way_round(self):
        pairs = [("ann", "bob"), ("bob", "dee"), ("cyd", "old")]
        for ordered in itertools.permutations(pairs):
            for turned in itertools.product([False, True], repeat=3):
                told = [(pair[1], pair[0]) if turn else pair for pair, turn in zip(ordered, turned)]
                town = Town(ALL, told)
                self.assertEqual(town.homes(), [[ANN, BOB, DEE], [CYD, OLD]])
                self.assertEqual(town.chain("dee", "ann"), ["dee", "bob", "ann"])
                self.assertEqual(town.chain("ann", "dee"), ["ann", "bob", "dee"])

    def test_a_pair_told_twice_or_of_a_name_and_itself_tells_nothing_new(self):
        pairs = PAIRS + PAIRS + [("ann", "cyd"), ("bob", "bob"), ("ann", "ann"), ("dee", "old"), ("old", "old")]
        town = Town(ALL, pairs)
        self.assertEqual(town.homes(), [[ANN, CYD], [BOB], [DEE, OLD]])
        self.assertEqual(town.chain("ann", "cyd"), ["ann", "cyd"])
        self.assertEqual(town.chain("bob", "bob"), ["bob"])
        self.assertEqual(town.chain("ann", "ann"), ["ann"])
        self.assertIsNone(town.chain("ann", "bob"))


class Refused(TownCase):
    def test_a_name_that_comes_twice(self):
        self.assert_refused(Twice, "ann", lambda: Town([ANN, ANN], []))
        self.assert_refused(Twice, "ann", lambda: Town([ANN, BOB, ("ann", 1, 2, 3)], []))

    def test_of_several_the_first_to_come_a_second_time(self):
        self.assert_refused(Twice, "bob", lambda: Town([ANN, BOB, BOB, ANN], []))
        self.assert_refused(Twice, "bob", lambda: Town([ANN, CYD, BOB, DEE, BOB, ANN, CYD], []))
        self.assert_refused(Twice, "cyd", lambda: Town([CYD, BOB, ANN, CYD, BOB, ANN], []))
        self.assert_refused(Twice, "ann", lambda: Town([BOB, ANN, ANN, ANN, BOB], []))

    def test_twice_goes_ahead_of_unknown(self):
        self.assert_refused(Twice, "ann", lambda: Town([ANN, ANN], [("zed", "yan")]))
        self.assert_refused(Twice, "old", lambda: Town(ALL + [OLD], [("zed", "ann")]))

    def test_a_pair_of_a_name_that_nobody_bears(self):
        self.assert_refused(Unknown, "zed", lambda: Town(ALL, [("ann", "zed")]))
        self.assert_refused(Unknown, "zed", lambda: Town(ALL, [("zed", "ann")]))
        self.assert_refused(Unknown, "zed", lambda: Town([], [("zed", "ann")]))

    def test_a_pair_of_such_a_name_and_itself(self):
        self.assert_refused(Unknown, "zed", lambda: Town(ALL, [("zed", "zed")]))
        self.assert_refused(Unknown, "zed", lambda: Town([], [("zed", "zed")]))

    def test_of_several_the_first_pair_by_pair_and_in_a_pair_the_first(self):
        self.assert_refused(Unknown, "zed", lambda: Town(ALL, [("zed", "abe")]))
        self.assert_refused(Unknown, "abe", lambda: Town(ALL, [("abe", "zed")]))
        self.assert_refused(Unknown, "zed", lambda: Town(ALL, [("ann", "zed"), ("abe", "ann")]))
        self.assert_refused(Unknown, "zed", lambda: Town(ALL, [("ann", "bob"), ("cyd", "zed"), ("abe", "yan")]))
        self.assert_refused(Unknown, "yan", lambda: Town(ALL, [("ann", "bob"), ("yan", "ann"), ("ann", "abe")]))

    def test_texts_that_are_no_names(self):
        for text in ["", "Ann", "an", "anna", "ann ", " ", "0"]:
            self.assert_refused(Unknown, text, lambda: Town(ALL, [("ann", text)]))


class Told(TownCase):
    def test_names_are_sorted_as_texts_are(self):
        wanted = ["a", "aa", "aaaaaaaa", "ab", "b", "ba", "z"]
        town = Town([(name, 1, 2, 3) for name in ["b", "ab", "a", "aaaaaaaa", "z", "ba", "aa"]], [])
        self.assertEqual(town.names(), wanted)
        self.assertEqual([home[0][0] for home in town.homes()], wanted)

    def test_homes_in_the_order_of_their_first_names(self):
        self.assertEqual(Town(ALL, [("bob", "cyd"), ("ann", "old")]).homes(), [[ANN, OLD], [BOB, CYD], [DEE]])
        self.assertEqual(Town(ALL, [("cyd", "dee"), ("old", "bob")]).homes(), [[ANN], [BOB, OLD], [CYD, DEE]])

    def test_persons_are_told_as_they_were_handed_in(self):
        for home in Town(ALL, PAIRS).homes():
            self.assertIs(type(home), list)
            for who in home:
                self.assertIs(type(who), tuple)
                self.assertIn(who, ALL)

    def test_a_chain_of_several_steps(self):
        pairs = [("ann", "old"), ("bob", "old"), ("bob", "dee"), ("cyd", "dee")]
        self.assertEqual(Town(ALL, pairs).chain("ann", "cyd"), ["ann", "old", "bob", "dee", "cyd"])
        self.assertEqual(Town(ALL, pairs).chain("cyd", "ann"), ["cyd", "dee", "bob", "old", "ann"])
        self.assertEqual(Town(ALL, pairs).chain("bob", "ann"), ["bob", "old", "ann"])
        self.assertEqual(Town(ALL, pairs).homes(), [ALL])

    def test_a_chain_to_the_same_one(self):
        for pairs in [[], PAIRS, [("ann", "ann")], [("ann", "bob"), ("bob", "cyd"), ("cyd", "ann")]]:
            for name in NAMES:
                self.assertEqual(Town(ALL, pairs).chain(name, name), [name])

    def test_a_chain_where_there_are_several(self):
        pairs = [("ann", "bob"), ("bob", "cyd"), ("cyd", "dee"), ("dee", "ann"), ("ann", "cyd"), ("dee", "old")]
        town = Town(ALL, pairs)
        for one, other in itertools.product(NAMES, NAMES):
            self.assert_chain(town.chain(one, other), one, other, pairs)

    def test_no_chain_between_homes(self):
        town = Town(ALL, PAIRS)
        for one, other in [("ann", "bob"), ("bob", "ann"), ("cyd", "old"), ("dee", "ann")]:
            self.assertIsNone(town.chain(one, other))

    def test_a_name_that_nobody_bears(self):
        town = Town(ALL, PAIRS)
        for name in ["zed", "", "an", "anna", "Ann", "ann ", "a b", "0", "~"]:
            self.assert_refused(Unknown, name, lambda: town.home(name))
            self.assert_refused(Unknown, name, lambda: town.chain(name, "ann"))
            self.assert_refused(Unknown, name, lambda: town.chain("ann", name))
            self.assert_refused(Unknown, name, lambda: town.chain(name, name))

    def test_of_two_the_first_one_goes_ahead(self):
        town = Town(ALL, PAIRS)
        self.assert_refused(Unknown, "zed", lambda: town.chain("zed", "abe"))
        self.assert_refused(Unknown, "abe", lambda: town.chain("abe", "zed"))


class OverMany(TownCase):
    def test_all_towns_of_four(self):
        people = [DEE, BOB, ANN, CYD]
        every = list(itertools.combinations(["bob", "ann", "dee", "cyd"], 2))
        for many in range(len(every) + 1):
            for pairs in itertools.combinations(every, many):
                self.assert_town(people, list(pairs))

    def test_some_towns(self):
        chance = random.Random(16)
        for turn in range(40):
            people = some_people(chance, chance.randint(1, 20))
            names = [who[0] for who in people]
            pairs = [(chance.choice(names), chance.choice(names)) for pair in range(chance.randint(0, 24))]
            self.assert_town(people, pairs)

    def test_sixty_persons_and_sixty_pairs(self):
        chance = random.Random(60)
        people = some_people(chance, 60)
        names = [who[0] for who in people]
        self.assert_town(people, [(chance.choice(names), chance.choice(names)) for pair in range(60)])
        self.assert_town(people, list(zip(names, names[1:] + names[:1])))
        self.assert_town(people, [(names[7], name) for name in names])

    def test_more_than_sixty_are_not_refused(self):
        names = [spelled(number) for number in range(2000)]
        town = Town([(name, 1, 2, 3) for name in reversed(names)], list(zip(names, names[1:])))
        self.assertEqual(town.chain(names[0], names[-1]), names)
        self.assertEqual(town.chain(names[-1], names[0]), names[::-1])
        self.assertEqual([who[0] for who in town.home(names[1000])], names)
        self.assertEqual(len(town.homes()), 1)

    def test_persons_somewhat_beyond_their_bounds_are_not_refused(self):
        people = [("ann", 151, 10 ** 9 + 1, 10 ** 9 + 1), ("bob", 0, 0, 0)]
        self.assertEqual(Town(people, [("bob", "ann")]).homes(), [people])

    def test_what_was_told_is_taken_again(self):
        town = Town(ALL, PAIRS)
        homes = town.homes()
        people = [who for home in homes for who in home]
        pairs = [(home[0][0], who[0]) for home in homes for who in home]
        self.assertEqual(Town(people, pairs).homes(), homes)


class Own(TownCase):
    def told(self, town):
        return copy.deepcopy([town.names(), town.homes(), town.home("ann"), town.chain("cyd", "ann")])

    def test_nothing_handed_in_is_changed(self):
        people = [OLD, BOB, ANN, CYD, DEE]
        pairs = list(PAIRS)
        self.told(Town(people, pairs))
        self.assertEqual(people, [OLD, BOB, ANN, CYD, DEE])
        self.assertEqual(pairs, PAIRS)

    def test_nothing_handed_in_is_changed_where_it_is_refused(self):
        for people, pairs in [([BOB, ANN, BOB], [("bob", "ann")]), ([BOB, ANN], [("bob", "ann"), ("ann", "zed")])]:
            people_before, pairs_before = list(people), list(pairs)
            with self.assertRaises(HelpError):
                Town(people, pairs)
            self.assertEqual((people, pairs), (people_before, pairs_before))

    def test_what_is_done_to_what_was_handed_in_changes_nothing(self):
        for spoil in [lambda things: things.clear(), lambda things: things.reverse(),
                      lambda things: things.append(things[0])]:
            people, pairs = list(ALL), list(PAIRS)
            town = Town(people, pairs)
            before = self.told(town)
            spoil(people)
            spoil(pairs)
            self.assertEqual(self.told(town), before)

    def test_what_is_done_to_what_was_told_changes_nothing(self):
        town = Town(ALL, PAIRS)
        before = self.told(town)
        for home in town.homes():
            home.clear()
        town.homes().clear()
        town.names().clear()
        town.home("ann").clear()
        town.chain("cyd", "ann").clear()
        town.chain("ann", "ann").append("bob")
        self.assertEqual(self.told(town), before)

    def test_what_was_told_stays_whatever_is_asked_later(self):
        town = Town(ALL, PAIRS)
        told = [town.names(), town.homes(), town.home("ann"), town.chain("cyd", "ann")]
        before = copy.deepcopy(told)
        for one in NAMES:
            town.home(one).append(BOB)
            for other in NAMES:
                town.chain(one, other)
        town.names().append("zed")
        town.homes()[0].append(BOB)
        self.assertEqual(told, before)

    def test_a_refused_question_changes_nothing(self):
        town = Town(ALL, PAIRS)
        before = self.told(town)
        for asked in [lambda: town.home("zed"), lambda: town.chain("ann", "zed"), lambda: town.chain("zed", "ann")]:
            self.assert_refused(Unknown, "zed", asked)
        self.assertEqual(self.told(town), before)

    def test_two_towns_have_nothing_to_do_with_one_another(self):
        town = Town(ALL, PAIRS)
        before = self.told(town)
        Town(ALL, [("ann", "bob"), ("cyd", "old")]).homes()
        self.assertEqual(self.told(town), before)


if __name__ == "__main__":
    unittest.main()
