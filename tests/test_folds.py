import copy
import unittest
from random import Random

from onlybuilt.folds import folded
from onlybuilt.growths import above, is_growth, seen
from onlybuilt.statements import parts
from tests import sample_growths, samples, second_growths
from tests.sample_growths import APART, BARE, CHAIN, DIAMOND, DOT, FORK, LONE
from tests.samples import A, B, C, NEVER, both, either, leads

LISTS = (
    [], [A], [NEVER], [B, A], [leads(A, B)], [either(A, leads(A, NEVER))],
    [leads(leads(A, NEVER), NEVER), both(A, B)], [either(leads(A, B), leads(B, A)), C], [A, A],
)


class Folded(unittest.TestCase):

    def test_by_none(self):
        for growth in (*sample_growths.NAMED, *sample_growths.middling()):
            stands = second_growths.above(growth, 0)
            self.assertEqual(folded(growth, []), ([([], [])], {k: 0 for k in stands}))

    def test_stands_of_one_set_become_one(self):
        growth = [([], [1]), ([], [2]), (["a"], [3]), (["a", "b"], [])]
        self.assertEqual(
            folded(growth, [A]), ([([], [1]), (["a"], [])], {0: 0, 1: 0, 2: 1, 3: 1})
        )
        self.assertEqual(
            folded(growth, [B]), ([([], [1]), (["b"], [])], {0: 0, 1: 0, 2: 0, 3: 1})
        )
        self.assertEqual(
            folded(growth, [B, A]),
            ([([], [1, 2]), (["a"], [2]), (["a", "b"], [])], {0: 0, 1: 0, 2: 1, 3: 2}),
        )

    def test_names_are_letters_of_the_statements_alone(self):
        growth = [(["a", "c"], [1]), (["a", "b", "c"], [])]
        self.assertEqual(folded(growth, [B]), ([([], [1]), (["b"], [])], {0: 0, 1: 1}))
        self.assertEqual(
            folded(growth, [both(C, B)]), ([(["c"], [1]), (["b", "c"], [])], {0: 0, 1: 1})
        )

    def test_sets_have_the_parts_and_not_the_statements_alone(self):
        # Neither stand has the statement, but the upper one a part of it.
        growth = [([], [1]), (["a"], [])]
        self.assertEqual(folded(growth, [both(A, B)]), ([([], [1]), (["a"], [])], {0: 0, 1: 1}))

    def test_above_are_wider_sets_also_where_no_step_led(self):
        growth = [([], [1, 2]), (["a"], []), (["a", "b"], [])]
        self.assertEqual(
            folded(growth, [A, B]),
            ([([], [1, 2]), (["a"], [2]), (["a", "b"], [])], {0: 0, 1: 1, 2: 2}),
        )

    def test_sets_of_as_many_parts_by_the_stand_of_the_least_number(self):
        self.assertEqual(
            folded(FORK, [A, B]), ([([], [1, 2]), (["a"], []), (["b"], [])], {0: 0, 1: 1, 2: 2})
        )
        self.assertEqual(
            folded(FORK, [B, A]), ([([], [1, 2]), (["a"], []), (["b"], [])], {0: 0, 1: 1, 2: 2})
        )
        growth = [([], [1, 2, 3]), (["b"], []), (["a"], []), (["b"], [])]
        self.assertEqual(
            folded(growth, [A, B]),
            ([([], [1, 2]), (["b"], []), (["a"], [])], {0: 0, 1: 1, 2: 2, 3: 1}),
        )

    def test_fewest_parts_first_whatever_the_numbers(self):
        growth = [([], [1, 2]), (["a", "b"], []), (["c"], [])]
        self.assertEqual(
            folded(growth, [A, B, C]),
            ([([], [1, 2]), (["c"], []), (["a", "b"], [])], {0: 0, 1: 2, 2: 1}),
        )

    def test_equal_parts_of_several_statements_count_once(self):
        # Counted as often as it stands, a would be more than b and c.
        growth = [([], [1, 2]), (["a"], []), (["b", "c"], [])]
        told = folded(growth, [A, A, both(A, A), B, C])
        self.assertEqual(told[1], {0: 0, 1: 1, 2: 2})
        told = folded(growth, [both(A, NEVER), either(A, NEVER), B, C])
        # There {a, a or never} and {b, c} are as many.
        self.assertEqual(told[1], {0: 0, 1: 1, 2: 2})

    def test_stands_that_are_not_above_the_first_one_are_left_out(self):
        self.assertEqual(
            folded(APART, [A, B]),
            ([([], [1, 2]), (["b"], [2]), (["a", "b"], [])], {0: 0, 2: 1, 4: 2}),
        )
        self.assertEqual(folded(LONE, [A]), ([([], [])], {0: 0}))

    def test_places_rise_and_are_complete(self):
        for growth in sample_growths.every():
            for statements in LISTS:
                told, places = folded(growth, statements)
                self.assertEqual(list(places), above(growth, 0))
                self.assertEqual(sorted(set(places.values())), list(range(len(told))))
                self.assertEqual(places[0], 0)

    def test_as_told_a_second_time(self):
        for growth in sample_growths.every():
            for statements in LISTS:
                told = folded(growth, statements)
                self.assertEqual(told, second_growths.folded(growth, statements))

    def test_middling_ones_as_told_a_second_time(self):
        pick = Random(4)
        statements = samples.middling()[:120]
        for growth in sample_growths.middling()[:36]:
            some = pick.sample(statements, pick.randrange(1, 4))
            self.assertEqual(folded(growth, some), second_growths.folded(growth, some))

    def test_each_part_holds_at_a_stand_just_where_it_holds_at_its_place(self):
        for growth in sample_growths.middling():
            for a in samples.middling()[::11]:
                told, places = folded(growth, [a, leads(A, B)])
                self.assertTrue(is_growth(told))
                for part in [*parts(a), leads(A, B), A, B]:
                    here, there = seen(growth, part), seen(told, part)
                    self.assertTrue(all(here[k] == there[places[k]] for k in places))

    def test_growths_of_200_stands(self):
        many = [*samples.deepest()[:4], leads(A, B), NEVER]
        for growth in sample_growths.greatest():
            told, places = folded(growth, many)
            self.assertTrue(is_growth(told))
            for a in many:
                here, there = seen(growth, a), seen(told, a)
                self.assertTrue(all(here[k] == there[places[k]] for k in places))
        letters = [("letter", "a" + sign) for sign in "abcdefghijklmnopqrst"]
        chain = sample_growths.chain_of(200, [name for _, name in letters])
        told, places = folded(chain, letters)
        self.assertEqual(len(told), 21)
        self.assertEqual(places, {k: max(0, k - 179) for k in range(200)})
        self.assertEqual(told[0][1], list(range(1, 21)))

    def test_what_was_told_may_be_folded_again(self):
        for growth in sample_growths.middling():
            told, _ = folded(growth, [leads(A, B), C])
            again = folded(told, [leads(A, B), C])
            self.assertEqual(again, (told, {k: k for k in range(len(told))}))


class Purity(unittest.TestCase):

    def test_what_is_handed_in_stays_as_it_was(self):
        for growth in sample_growths.NAMED:
            for statements in LISTS:
                before = copy.deepcopy((growth, statements))
                folded(growth, statements)
                self.assertEqual((growth, statements), before)

    def test_what_is_told_is_new(self):
        for growth in (DIAMOND, APART, BARE, DOT, CHAIN):
            before = copy.deepcopy(growth)
            expected = copy.deepcopy(folded(growth, [A, B]))
            told, places = folded(growth, [A, B])
            self.assertIs(type(places), dict)
            for names, up in told:
                names.append("z")
                up.append(9)
            told.clear()
            places.clear()
            self.assertEqual(folded(growth, [A, B]), expected)
            self.assertEqual(growth, before)


if __name__ == "__main__":
    unittest.main()
