import copy
import unittest

from onlybuilt.errors import NoGrowth
from onlybuilt.growths import above, cut, holds, is_growth, seen, under
from tests import sample_growths, samples, second_growths
from tests.refused import refused
from tests.sample_growths import APART, BARE, CHAIN, DIAMOND, DOT, FORK, LONE
from tests.samples import A, B, C, D, NEVER, both, either, leads


def changed(growth, k, names=None, up=None):
    """A copy of the growth in which the stand k has other names or numbers above."""
    stands = copy.deepcopy(growth)
    stands[k] = (stands[k][0] if names is None else names, stands[k][1] if up is None else up)
    return stands


class IsGrowth(unittest.TestCase):

    def test_growths(self):
        for growth in [*sample_growths.every(), *sample_growths.greatest()]:
            self.assertIs(is_growth(growth), True)

    def test_no_stand(self):
        self.assertIs(is_growth([]), False)

    def test_each_name_is_a_name(self):
        for name in ("a", "abcdefgh", "by", "ands", "nevers"):
            self.assertIs(is_growth([([name], [])]), True)
        for name in ("", "abcdefghi", "A", "a1", "a b", " a", "and", "or", "then", "never", "~"):
            with self.subTest(name=name):
                self.assertIs(is_growth([([name], [])]), False)
                self.assertIs(is_growth([([], [1]), ([name], [])]), False)
                self.assertIs(is_growth([([], [1]), (sorted(["b", name]), [])]), False)

    def test_names_are_sorted_and_none_twice(self):
        self.assertIs(is_growth([(["a", "aa", "b"], [])]), True)
        for names in (["b", "a"], ["aa", "a"], ["a", "a"], ["a", "c", "b"], ["a", "b", "b"]):
            with self.subTest(names=names):
                self.assertIs(is_growth([(names, [])]), False)
                self.assertIs(is_growth([([], [1]), (names, [])]), False)

    def test_numbers_are_sorted_and_none_twice(self):
        self.assertIs(is_growth(changed(DIAMOND, 0, up=[1, 3])), True)
        for up in ([2, 1], [1, 1], [1, 3, 2], [3, 1, 2], [1, 2, 2]):
            with self.subTest(up=up):
                self.assertIs(is_growth(changed(DIAMOND, 0, up=up)), False)

    def test_a_number_is_greater_than_the_stands_own(self):
        for k, up in ((0, [0]), (1, [1]), (1, [0]), (2, [1, 3]), (3, [2]), (0, [-1]), (0, [-1, 1])):
            with self.subTest(k=k, up=up):
                bare = [([], above) for _, above in DIAMOND]
                self.assertIs(is_growth(changed(bare, k, up=up)), False)

    def test_a_number_is_that_of_a_stand(self):
        for growth in (BARE, FORK, CHAIN):
            many = len(growth)
            for number in (many, many + 1, -many, -many - 1, 10 ** 30, -10 ** 30):
                for k in range(many):
                    with self.subTest(growth=growth, number=number, k=k):
                        self.assertIs(is_growth(changed(growth, k, [], [number])), False)

    def test_each_name_stays_above(self):
        for growth in (CHAIN, DIAMOND):
            self.assertIs(is_growth(changed(growth, 0, names=["a"])), growth == CHAIN)
            self.assertIs(is_growth(changed(growth, 0, names=["b"])), False)
            self.assertIs(is_growth(changed(growth, 1, names=["a", "d"])), False)
        self.assertIs(is_growth(changed(CHAIN, 2, names=["b"])), False)
        self.assertIs(is_growth(changed(DIAMOND, 3, names=["a", "c"])), False)
        # It stays at the first stand above, but not at the second.
        self.assertIs(is_growth([(["a"], [1, 2]), (["a"], []), (["b"], [])]), False)
        self.assertIs(is_growth([(["a"], [1]), (["a"], []), (["b"], [])]), True)

    def test_stands_need_not_be_above_the_first_one(self):
        self.assertIs(is_growth(LONE), True)
        self.assertIs(is_growth(APART), True)
        # But what is asked of stands is asked of those, too.
        self.assertIs(is_growth([([], []), (["a"], [2]), ([], [])]), False)

    def test_each_small_change_as_told_a_second_time(self):
        rows = [[], ["a"], ["b"], ["a", "b"], ["b", "a"], ["a", "a"], ["never"], ["B"]]
        ups = [[], [0], [1], [2], [1, 2], [2, 1], [2, 2], [2, 3], [3], [-1], [0, 1, 2]]
        for growth in (CHAIN, FORK, LONE):
            for k in range(3):
                for names in rows:
                    for up in ups:
                        stands = changed(growth, k, names, up)
                        self.assertIs(is_growth(stands), second_growths.is_growth(stands), stands)

    def test_a_growth_of_200_stands_broken_at_its_end(self):
        for growth in sample_growths.greatest():
            self.assertIs(is_growth(changed(growth, 199, up=[200])), False)
            self.assertIs(is_growth(changed(growth, 199, up=[199])), False)
            self.assertIs(is_growth(changed(growth, 199, names=["or"])), False)
            self.assertIs(is_growth(changed(growth, 0, names=["z"])), False)


class Holds(unittest.TestCase):

    def test_letters_and_never(self):
        self.assertEqual([holds(CHAIN, k, A) for k in range(3)], [False, True, True])
        self.assertEqual([holds(CHAIN, k, B) for k in range(3)], [False, False, True])
        self.assertEqual([holds(CHAIN, k, NEVER) for k in range(3)], [False] * 3)
        self.assertEqual([holds(CHAIN, k, D) for k in range(3)], [False] * 3)

    def test_and_or(self):
        self.assertEqual(seen(DIAMOND, both(A, B)), [False, False, False, True])
        self.assertEqual(seen(DIAMOND, either(A, B)), [False, True, True, True])
        self.assertEqual(seen(DIAMOND, both(B, A)), [False, False, False, True])
        self.assertEqual(seen(DIAMOND, either(B, A)), [False, True, True, True])

    def test_a_then_is_judged_by_all_stands_at_or_above(self):
        # At 0 neither holds, but above it a does without b.
        self.assertEqual(seen(CHAIN, leads(A, B)), [False, False, True])
        self.assertEqual(seen(CHAIN, leads(B, A)), [True, True, True])
        self.assertEqual(seen(FORK, leads(A, B)), [False, False, True])
        # By a stand that is two steps away, and by one itself.
        self.assertEqual(seen([([], [1]), ([], [2]), (["a"], [])], leads(A, B)), [False] * 3)
        self.assertEqual(seen(DOT, leads(A, B)), [False])
        self.assertEqual(seen(DOT, leads(B, A)), [True])

    def test_negatives(self):
        self.assertEqual(seen(FORK, leads(A, NEVER)), [False, False, True])
        self.assertEqual(seen(CHAIN, leads(leads(A, NEVER), NEVER)), [True] * 3)
        self.assertEqual(seen(FORK, either(A, leads(A, NEVER))), [False, True, True])
        self.assertEqual(seen(BARE, leads(NEVER, NEVER)), [True])

    def test_stands_that_are_not_above_do_not_count(self):
        self.assertEqual(seen(LONE, leads(B, A)), [False, True, True])
        self.assertEqual(seen(APART, leads(A, B)), [True, False, True, False, True])

    def test_one_truth_for_each_stand(self):
        for growth in (DOT, CHAIN, DIAMOND, APART):
            for a in (A, NEVER, both(A, B), either(A, B), leads(A, B)):
                told = seen(growth, a)
                self.assertIs(type(told), list)
                self.assertEqual(len(told), len(growth))
                for k, truth in enumerate(told):
                    self.assertIs(type(truth), bool)
                    self.assertIs(holds(growth, k, a), truth)

    def test_all_small_statements_as_told_a_second_time(self):
        for growth in (CHAIN, FORK, DIAMOND, APART, LONE):
            for a in samples.small():
                expected = [second_growths.holds(growth, k, a) for k in range(len(growth))]
                self.assertEqual(seen(growth, a), expected)

    def test_all_tiny_growths_as_told_a_second_time(self):
        statements = [
            A, NEVER, leads(A, NEVER), leads(leads(A, NEVER), NEVER), either(A, leads(A, NEVER)),
            leads(either(A, leads(A, NEVER)), B), both(leads(A, B), leads(B, A)), leads(leads(A, B), A),
        ]
        for growth in sample_growths.tiny():
            for a in statements:
                expected = [second_growths.holds(growth, k, a) for k in range(len(growth))]
                self.assertEqual(seen(growth, a), expected)

    def test_middling_ones_as_told_a_second_time(self):
        growths = sample_growths.middling()
        for at, a in enumerate(samples.middling()):
            growth = growths[at % len(growths)]
            for k in range(len(growth)):
                self.assertIs(holds(growth, k, a), second_growths.holds(growth, k, a))

    def test_what_holds_at_a_stand_holds_above(self):
        for growth in sample_growths.middling():
            for a in samples.middling()[::7]:
                told = seen(growth, a)
                for k, truth in enumerate(told):
                    self.assertTrue(not truth or all(told[j] for j in above(growth, k)))

    def test_at_the_bounds(self):
        deepest = samples.deepest()
        for growth in sample_growths.greatest():
            for a in deepest:
                told = seen(growth, a)
                self.assertEqual(len(told), 200)
                self.assertIs(holds(growth, 199, a), told[199])
                # There is nothing above the last stand, which so is a growth by itself.
                self.assertIs(told[199], second_growths.holds([growth[199]], 0, a))

    def test_a_chain_of_200_stands(self):
        growth = sample_growths.chain_of(200, "ab")
        self.assertEqual(seen(growth, A), [False] * 199 + [True])
        self.assertEqual(seen(growth, B), [False] * 198 + [True] * 2)
        self.assertEqual(seen(growth, leads(B, A)), [False] * 199 + [True])
        self.assertEqual(seen(growth, leads(leads(A, NEVER), NEVER)), [True] * 200)


class Above(unittest.TestCase):

    def test_the_stand_itself_and_all_that_steps_lead_to(self):
        self.assertEqual(above(CHAIN, 0), [0, 1, 2])
        self.assertEqual(above(CHAIN, 2), [2])
        self.assertEqual(above(FORK, 1), [1])
        self.assertEqual(above(DIAMOND, 1), [1, 3])
        self.assertEqual(above(APART, 0), [0, 2, 4])
        self.assertEqual(above(APART, 1), [1, 3, 4])
        self.assertEqual(above(LONE, 0), [0])

    def test_as_told_a_second_time(self):
        for growth in sample_growths.every():
            for k in range(len(growth)):
                self.assertEqual(above(growth, k), second_growths.above(growth, k))

    def test_growths_of_200_stands(self):
        for k in (0, 1, 100, 199):
            self.assertEqual(above(sample_growths.chain_of(200), k), list(range(k, 200)))
        for growth in sample_growths.greatest()[1:3]:
            self.assertEqual(above(growth, 0), list(range(200)))
            self.assertEqual(above(growth, 199), [199])


class Cut(unittest.TestCase):

    def test_stands_are_numbered_anew(self):
        self.assertEqual(cut(CHAIN, 0), CHAIN)
        self.assertEqual(cut(CHAIN, 1), [(["a"], [1]), (["a", "b"], [])])
        self.assertEqual(cut(CHAIN, 2), [(["a", "b"], [])])
        self.assertEqual(cut(DIAMOND, 2), [(["b"], [1]), (["a", "b", "c"], [])])
        self.assertEqual(cut(APART, 0), [([], [1]), (["b"], [2]), (["a", "b"], [])])
        self.assertEqual(cut(APART, 1), [(["a"], [1, 2]), (["a"], []), (["a", "b"], [])])
        self.assertEqual(cut(LONE, 0), [(["b"], [])])

    def test_as_told_a_second_time_at_each_stand(self):
        for growth in sample_growths.every():
            for k in range(len(growth)):
                told = cut(growth, k)
                self.assertEqual(told, second_growths.cut(growth, k))
                self.assertTrue(is_growth(told))

    def test_a_statement_holds_where_it_held(self):
        for growth in sample_growths.middling():
            for a in samples.middling()[::9]:
                truths = seen(growth, a)
                for k in range(len(growth)):
                    kept = [truths[j] for j in above(growth, k)]
                    self.assertEqual(seen(cut(growth, k), a), kept)

    def test_growths_of_200_stands(self):
        for growth in sample_growths.greatest():
            for k in (0, 100, 199):
                told = cut(growth, k)
                self.assertTrue(is_growth(told))
                self.assertEqual([names for names, _ in told], [growth[j][0] for j in above(growth, k)])


class Under(unittest.TestCase):

    def test_none(self):
        self.assertEqual(under([], []), [([], [])])
        self.assertEqual(under([], ["b", "a"]), [(["a", "b"], [])])

    def test_one(self):
        self.assertEqual(under([DOT], []), [([], [1]), (["a"], [])])
        self.assertEqual(under([DOT], ["a"]), [(["a"], [1]), (["a"], [])])
        self.assertEqual(under([FORK], []), [([], [1]), ([], [2, 3]), (["a"], []), (["b"], [])])

    def test_twice_and_several(self):
        self.assertEqual(under([DOT, DOT], ["a"]), [(["a"], [1, 2]), (["a"], []), (["a"], [])])
        self.assertEqual(
            under([CHAIN, BARE, APART], []),
            [
                ([], [1, 4, 5]),
                ([], [2]), (["a"], [3]), (["a", "b"], []),
                ([], []),
                ([], [7]), (["a"], [8, 9]), (["b"], [9]), (["a"], []), (["a", "b"], []),
            ],
        )

    def test_letters_in_any_order_are_told_sorted(self):
        growth = [(["a", "aa", "b", "c"], [])]
        for names in (["c", "a", "b"], ["b", "c", "a"], ["a", "b", "c"]):
            self.assertEqual(under([growth], names)[0], (["a", "b", "c"], [1]))
        self.assertEqual(under([growth, growth], ["b", "aa"])[0], (["aa", "b"], [1, 2]))

    def test_at_the_stands_of_the_growths_there_holds_what_held(self):
        growths = sample_growths.middling()[::5]
        told = under(growths, [])
        self.assertTrue(is_growth(told))
        for a in samples.middling()[::5]:
            expected = [truth for growth in growths for truth in seen(growth, a)]
            self.assertEqual(seen(told, a)[1:], expected)

    def test_refused_by_the_first_growth_that_lacks_a_letter(self):
        ab = [(["a", "b"], [])]
        cases = (
            ([BARE], ["a"], 0),
            ([DOT, BARE], ["a"], 1),
            ([DOT, BARE, BARE], ["a"], 1),
            ([ab, ab, DOT, BARE], ["b", "a"], 2),
            ([ab, DOT], ["a", "b"], 1),
            ([ab, ab, ab, CHAIN], ["b"], 3),
            # The letter comes above the first stand alone.
            ([CHAIN], ["b"], 0),
            ([DOT, [([], []), (["a"], [])]], ["a"], 1),
        )
        for growths, names, at in cases:
            with self.subTest(growths=growths, names=names):
                self.assertEqual(refused(self, "NoGrowth", under, growths, names).at, at)

    def test_growths_of_200_stands(self):
        greatest = sample_growths.greatest()
        told = under(greatest, [])
        self.assertEqual(len(told), 1001)
        self.assertEqual(told[0], ([], [1, 201, 401, 601, 801]))
        self.assertTrue(is_growth(told))
        # What was told may be handed in again.
        again = under([told, told], [])
        self.assertTrue(is_growth(again))
        self.assertEqual(cut(again, 1), cut(again, 1002))
        self.assertEqual(seen(again, leads(A, B))[1:1002], seen(told, leads(A, B)))


class Purity(unittest.TestCase):

    def test_what_is_handed_in_stays_as_it_was(self):
        a = leads(either(A, B), both(B, C))
        for growth in (*sample_growths.NAMED, *sample_growths.middling()[::4]):
            before = copy.deepcopy(growth)
            for k in range(len(growth)):
                holds(growth, k, a)
                above(growth, k)
                cut(growth, k)
            is_growth(growth)
            seen(growth, a)
            self.assertEqual(growth, before)
        growths = [CHAIN, [(["a", "b"], [])], DOT]
        names = ["a"]
        before = copy.deepcopy((growths, names))
        with self.assertRaises(NoGrowth):
            under(growths, names)
        under(growths[1:], names)
        self.assertEqual((growths, names), before)

    def test_what_is_told_is_new_with_the_lists_within_it(self):
        for growth in (*sample_growths.NAMED, *sample_growths.middling()[::4]):
            before = copy.deepcopy(growth)
            for asked in (
                lambda: cut(growth, 0), lambda: under([growth, growth], []),
                lambda: above(growth, 0), lambda: seen(growth, A),
            ):
                expected = copy.deepcopy(asked())
                told = asked()
                for stand in told:
                    if isinstance(stand, tuple):
                        stand[0].append("z")
                        stand[1].append(7)
                told.append("more")
                self.assertEqual(asked(), expected)
                self.assertEqual(growth, before)

    def test_lists_within_what_is_told_are_not_shared(self):
        told = under([DOT, DOT], [])
        told[1][0].append("b")
        self.assertEqual(told[2], (["a"], []))

    def test_the_letters_handed_in_may_be_changed_behind_the_call(self):
        names = ["b", "a"]
        told = under([], names)
        names.append("c")
        told[0][0].append("d")
        self.assertEqual(names, ["b", "a", "c"])
        self.assertEqual(told, [(["a", "b", "d"], [])])

    def test_what_is_refused_changes_nothing(self):
        growths = [CHAIN, DOT]
        for _ in range(2):
            with self.assertRaises(NoGrowth) as caught:
                under(growths, ["a"])
            self.assertEqual(caught.exception.at, 0)
        self.assertEqual(under(growths, [])[0], ([], [1, 4]))


if __name__ == "__main__":
    unittest.main()
