import copy
import unittest
from random import Random

from onlybuilt.growths import above, holds, under
from onlybuilt.likes import compared
from onlybuilt.statements import letters
from tests import sample_growths, samples, second, second_growths
from tests.refused import refused
from tests.sample_growths import APART, BARE, CHAIN, DIAMOND, DOT, FORK, LONE
from tests.samples import A

# The first seven differ, the later ones ever further above, in what a may do there.
LADDER = (
    BARE,
    DOT,
    [([], [1]), (["a"], [])],
    [([], [1, 2]), (["a"], []), ([], [])],
    [([], [1, 2]), ([], [3]), ([], []), (["a"], [])],
    [([], [1, 2]), ([], [4, 5]), ([], [3, 5]), ([], [4]), (["a"], []), ([], [])],
    [([], [1, 2]), ([], [4, 5]), ([], [3]), ([], [4]), (["a"], []), ([], [])],
    FORK, CHAIN, DIAMOND, APART, LONE,
)


def pairs_of(growths):
    return [(one, other) for one in growths for other in growths]


def names_in(growth):
    return {name for names, _ in growth for name in names}


class Compared(unittest.TestCase):

    def are_told(self, one, other):
        """Check all that 15 asks of what is told, and tell whether that is like."""
        word, told = compared(one, other)
        if word == "apart":
            self.assertTrue(second.is_statement(told))
            self.assertNotEqual(holds(one, 0, told), holds(other, 0, told))
            self.assertLessEqual(set(letters(told)), names_in(one) | names_in(other))
            return False
        self.assertEqual(word, "like")
        self.assertIs(type(told), list)
        self.assertEqual(told, sorted(set(told)))
        self.assertIn((0, 0), told)
        self.assertTrue(all(type(pair) is tuple for pair in told))
        for k, j in told:
            self.assertTrue(second_growths.matched(told, one, other, k, j))
            self.assertIn(k, above(one, 0))
            self.assertIn(j, above(other, 0))
        return True

    def test_like_itself(self):
        self.assertEqual(compared(BARE, BARE), ("like", [(0, 0)]))
        self.assertEqual(compared(CHAIN, CHAIN), ("like", [(0, 0), (1, 1), (2, 2)]))
        self.assertEqual(compared(FORK, FORK), ("like", [(0, 0), (1, 1), (2, 2)]))
        for growth in LADDER:
            self.assertTrue(self.are_told(growth, growth))
            pairs = compared(growth, growth)[1]
            for k in above(growth, 0):
                self.assertIn((k, k), pairs)

    def test_like_others(self):
        # Stands twice, and steps over stands, tell nothing apart.
        twice = [(["a"], [1, 2]), (["a"], []), (["a"], [])]
        self.assertEqual(compared(DOT, twice), ("like", [(0, 0), (0, 1), (0, 2)]))
        self.assertEqual(compared(twice, DOT), ("like", [(0, 0), (1, 0), (2, 0)]))
        over = [([], [1, 2]), (["a"], [2]), (["a", "b"], [])]
        self.assertEqual(compared(CHAIN, over), ("like", [(0, 0), (1, 1), (2, 2)]))
        slow = [([], [1]), ([], [2]), (["a"], [3]), (["a", "b"], [])]
        self.assertEqual(compared(CHAIN, slow), ("like", [(0, 0), (0, 1), (1, 2), (2, 3)]))
        turned = [([], [1, 2]), (["b"], []), (["a"], [])]
        self.assertEqual(compared(FORK, turned), ("like", [(0, 0), (1, 2), (2, 1)]))

    def test_stands_that_are_not_above_the_first_one_are_left_out(self):
        aside = [(["b"], []), (["a"], []), ([], [1])]
        self.assertEqual(compared(LONE, aside), ("like", [(0, 0)]))
        self.assertEqual(
            compared(APART, [([], [1]), (["b"], [2]), (["a", "b"], [])]),
            ("like", [(0, 0), (2, 1), (4, 2)]),
        )

    def test_apart_by_a_letter(self):
        self.assertEqual(compared(DOT, BARE), ("apart", A))
        self.assertEqual(compared(BARE, DOT), ("apart", A))

    def test_apart_in_both_orders(self):
        for one, other in pairs_of(LADDER):
            with self.subTest(one=one, other=other):
                self.assertEqual(self.are_told(one, other), self.are_told(other, one))

    def test_the_ladder_is_apart_but_for_each_growth_itself(self):
        for one, other in pairs_of(LADDER[:7]):
            with self.subTest(one=one, other=other):
                self.assertEqual(self.are_told(one, other), one == other)

    def test_letters_that_stand_in_one_alone(self):
        one = [([], [1]), (["a", "q"], [])]
        other = [([], [1]), (["a"], [])]
        for told in (compared(one, other), compared(other, one)):
            self.assertEqual(told[0], "apart")
            self.assertIn("q", letters(told[1]))
            self.assertLessEqual(set(letters(told[1])), {"a", "q"})

    def test_no_letters_at_all_are_like(self):
        bare = [[([], up) for _, up in growth] for growth in LADDER]
        for one, other in pairs_of(bare):
            pairs = [(k, j) for k in above(one, 0) for j in above(other, 0)]
            self.assertEqual(compared(one, other), ("like", pairs))

    def test_all_tiny_ones_as_told_a_second_time(self):
        growths = sample_growths.tiny()
        pick = Random(6)
        for one in growths:
            for other in pick.sample(growths, 12):
                expected = second_growths.told_pairs(one, other)
                self.assertEqual(self.are_told(one, other), (0, 0) in expected)
                if (0, 0) in expected:
                    self.assertEqual(compared(one, other), ("like", expected))

    def test_growths_of_six_stands_of_which_little_is_changed(self):
        pick = Random(7)
        found = {True: 0, False: 0}
        while found[True] + found[False] < 600:
            one = sample_growths.grown(pick, 6, pick.choice(("a", "ab", "abc")))
            other = [(list(names), list(up)) for names, up in one]
            k = pick.randrange(5)
            j = pick.randrange(k + 1, 6)
            up = [i for i in other[k][1] if i != j] if j in other[k][1] else sorted([*other[k][1], j])
            other[k] = (other[k][0], up)
            if sample_growths.stay(other):
                found[self.are_told(one, other)] += 1
        self.assertGreater(min(found.values()), 50)

    def test_at_like_stands_just_the_same_holds(self):
        pick = Random(8)
        statements = [*samples.small()[::20], *samples.middling()[::20]]
        for _ in range(40):
            growth = sample_growths.grown(pick, 4, "ab")
            other = under([growth], []) if growth[0][0] == [] else growth
            word, pairs = compared(growth, other)
            self.assertEqual(word, "like")
            for k, j in pairs:
                for a in statements:
                    self.assertEqual(holds(growth, k, a), holds(other, j, a))

    def test_six_stands_and_seven(self):
        six = sample_growths.chain_of(6, "ab")
        seven = sample_growths.chain_of(7, "ab")
        aside = [*six, ([], [])]
        self.assertTrue(self.are_told(six, six))
        for one, other in ((seven, six), (six, seven), (seven, seven), (seven, DOT), (DOT, seven)):
            refused(self, "TooLarge", compared, one, other)
        # Those that are not above the first one count, too.
        refused(self, "TooLarge", compared, aside, six)
        refused(self, "TooLarge", compared, BARE, aside)
        for growth in sample_growths.greatest():
            refused(self, "TooLarge", compared, growth, DOT)


class Purity(unittest.TestCase):

    def test_what_is_handed_in_stays_as_it_was(self):
        before = copy.deepcopy(LADDER)
        for one, other in pairs_of(LADDER):
            compared(one, other)
        self.assertEqual(LADDER, before)

    def test_asked_again_the_same_is_told_and_the_list_is_new(self):
        for one, other in pairs_of(LADDER):
            expected = copy.deepcopy(compared(one, other))
            word, told = compared(one, other)
            if word == "like":
                told.clear()
            self.assertEqual(compared(one, other), expected)

    def test_a_statement_that_was_told_may_be_handed_in_again(self):
        for one, other in pairs_of(LADDER):
            word, told = compared(one, other)
            if word == "apart":
                doubled = ("then", ("then", told, told), told)
                self.assertNotEqual(holds(one, 0, doubled), holds(other, 0, doubled))


if __name__ == "__main__":
    unittest.main()
