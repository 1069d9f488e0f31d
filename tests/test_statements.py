import copy
import unittest

from onlybuilt.statements import joints, knots, letters, parts, turned
from onlybuilt.words import told
from tests import samples, second
from tests.samples import A, B, C, D, E, NEVER, W, X, Y, Z, both, either, leads, letter


class Joints(unittest.TestCase):

    def test_each_form(self):
        self.assertEqual(joints(A), 0)
        self.assertEqual(joints(NEVER), 0)
        self.assertEqual(joints(both(A, B)), 1)
        self.assertEqual(joints(either(A, B)), 1)
        self.assertEqual(joints(leads(A, B)), 1)

    def test_each_joint_counts_as_often_as_it_stands(self):
        twice = both(A, B)
        self.assertEqual(joints(either(twice, twice)), 3)
        self.assertEqual(joints(leads(either(twice, twice), either(twice, twice))), 7)

    def test_names_of_joints_words_within_are_no_joints(self):
        self.assertEqual(joints(both(letter("ands"), letter("orthen"))), 1)

    def test_as_told_a_second_time(self):
        for a in samples.every():
            self.assertEqual(joints(a), second.joints(a))

    def test_at_the_bounds(self):
        for seed in range(12):
            a = samples.deep(seed)
            self.assertEqual(second.nested(a), 40)
            self.assertEqual(joints(a), 100)


class Knots(unittest.TestCase):

    def test_example_of_point_6(self):
        inner = leads(Y, Z)
        self.assertEqual(knots(leads(both(X, inner), W)), 1)
        self.assertEqual(knots(both(X, inner)), 0)
        self.assertEqual(knots(inner), 0)

    def test_letters_never_and_ands_are_none(self):
        for a in (A, NEVER, both(A, B), both(both(A, B), NEVER), leads(both(A, B), NEVER)):
            self.assertEqual(knots(a), 0)

    def test_each_or_is_one_wherever_it_stands(self):
        one = either(A, B)
        self.assertEqual(knots(one), 1)
        self.assertEqual(knots(either(one, one)), 3)
        self.assertEqual(knots(both(one, C)), 1)
        self.assertEqual(knots(both(C, one)), 1)
        self.assertEqual(knots(leads(one, C)), 1)
        self.assertEqual(knots(leads(C, one)), 1)
        self.assertEqual(knots(leads(leads(one, C), D)), 2)

    def test_a_then_in_a_right_part_is_none(self):
        self.assertEqual(knots(leads(A, leads(B, leads(C, D)))), 0)
        self.assertEqual(knots(both(leads(A, B), leads(C, D))), 0)

    def test_a_then_in_the_left_parts_of_several_is_one(self):
        innermost = leads(A, B)
        self.assertEqual(knots(leads(innermost, C)), 1)
        self.assertEqual(knots(leads(leads(innermost, C), D)), 2)
        self.assertEqual(knots(leads(leads(leads(innermost, C), D), E)), 3)

    def test_a_then_in_a_right_part_within_a_left_part(self):
        self.assertEqual(knots(leads(leads(A, leads(B, C)), D)), 2)
        self.assertEqual(knots(leads(D, leads(leads(A, B), C))), 1)
        self.assertEqual(knots(leads(either(A, both(B, leads(C, D))), E)), 2)

    def test_each_then_counts_as_often_as_it_stands(self):
        inner = leads(A, B)
        self.assertEqual(knots(leads(both(inner, inner), C)), 2)

    def test_as_told_a_second_time(self):
        for a in samples.every():
            self.assertEqual(knots(a), second.knots(a))


class Letters(unittest.TestCase):

    def test_each_form(self):
        self.assertEqual(letters(A), ["a"])
        self.assertEqual(letters(NEVER), [])
        for word in samples.WORDS:
            self.assertEqual(letters((word, B, A)), ["a", "b"])

    def test_sorted_as_texts_and_each_once(self):
        names = ["b", "aa", "abcdefgh", "a", "b", "zz", "z", "aa"]
        a = NEVER
        for name in names:
            a = leads(a, letter(name))
        self.assertEqual(letters(a), ["a", "aa", "abcdefgh", "b", "z", "zz"])

    def test_no_letters(self):
        self.assertEqual(letters(both(NEVER, leads(NEVER, either(NEVER, NEVER)))), [])

    def test_as_told_a_second_time(self):
        for a in samples.every():
            self.assertEqual(letters(a), second.letters(a))

    def test_the_list_told_is_the_askers_own(self):
        for a in (A, NEVER, both(B, A), samples.deep(1)):
            expected = second.letters(a)
            letters(a).append("z")
            letters(a).clear()
            self.assertEqual(letters(a), expected)
            self.assertIsNot(letters(a), letters(a))


class Parts(unittest.TestCase):

    def test_letters_and_never_have_themselves(self):
        self.assertEqual(parts(A), [A])
        self.assertEqual(parts(NEVER), [NEVER])

    def test_order(self):
        a = leads(both(X, leads(Y, Z)), W)
        self.assertEqual(parts(a), [a, both(X, leads(Y, Z)), X, leads(Y, Z), Y, Z, W])
        b = either(leads(A, NEVER), both(B, C))
        self.assertEqual(parts(b), [b, leads(A, NEVER), A, NEVER, both(B, C), B, C])

    def test_equal_parts_are_told_once_where_they_first_come(self):
        self.assertEqual(parts(both(A, A)), [both(A, A), A])
        a = either(both(B, A), leads(A, both(B, A)))
        self.assertEqual(parts(a), [a, both(B, A), B, A, leads(A, both(B, A))])
        b = both(both(A, B), both(B, A))
        self.assertEqual(parts(b), [b, both(A, B), A, B, both(B, A)])

    def test_parts_of_unlike_words_and_sides_are_unlike(self):
        a = leads(both(A, B), either(either(A, B), leads(B, A)))
        self.assertEqual(
            parts(a),
            [a, both(A, B), A, B, either(either(A, B), leads(B, A)), either(A, B), leads(B, A)],
        )

    def test_equal_parts_that_are_other_tuples(self):
        a = both(leads(A, letter("b")), leads(letter("a"), B))
        self.assertEqual(parts(a), [a, leads(A, B), A, B])

    def test_as_told_a_second_time(self):
        for a in samples.every():
            self.assertEqual(parts(a), second.parts(a))

    def test_the_list_told_is_the_askers_own(self):
        for a in (A, NEVER, both(B, A), samples.deep(1)):
            expected = second.parts(a)
            parts(a).append(W)
            parts(a).clear()
            self.assertEqual(parts(a), expected)
            self.assertIsNot(parts(a), parts(a))


BOOKS = (
    {},
    {"a": B},
    {"a": NEVER, "q": A},
    {"a": B, "b": A},
    {"a": both(A, B), "b": leads(C, A), "c": NEVER, "d": D},
    {"by": either(A, letter("by")), "abcdefgh": leads(NEVER, B), "ands": C, "e": E},
)


class Turned(unittest.TestCase):

    def test_by_no_names(self):
        for a in (A, NEVER, leads(both(A, B), either(C, NEVER))):
            self.assertEqual(turned(a, {}), a)

    def test_letters_outside_the_book_and_never_stay(self):
        self.assertEqual(turned(B, {"a": C}), B)
        self.assertEqual(turned(NEVER, {"a": C, "never": D}), NEVER)
        self.assertEqual(turned(leads(B, NEVER), {"a": C, "then": D}), leads(B, NEVER))

    def test_a_letter_of_the_book_wherever_it_stands(self):
        a = either(both(A, B), leads(leads(A, C), A))
        n = leads(D, NEVER)
        self.assertEqual(turned(A, {"a": n}), n)
        self.assertEqual(turned(a, {"a": n}), either(both(n, B), leads(leads(n, C), n)))

    def test_several_letters_all_at_once(self):
        self.assertEqual(turned(leads(A, B), {"a": B, "b": A}), leads(B, A))
        book = {"a": B, "b": C, "c": A}
        self.assertEqual(turned(both(A, either(B, C)), book), both(B, either(C, A)))

    def test_what_is_put_in_is_not_turned_again(self):
        self.assertEqual(turned(A, {"a": both(A, A)}), both(A, A))
        book = {"a": both(B, A), "b": leads(A, NEVER)}
        self.assertEqual(turned(either(A, B), book), either(both(B, A), leads(A, NEVER)))

    def test_as_told_a_second_time(self):
        for a in samples.every():
            for book in BOOKS:
                self.assertEqual(turned(a, book), second.turned(a, book))

    def test_the_book_stays_as_it_was(self):
        for book in BOOKS:
            kept = copy.deepcopy(book)
            for a in samples.middling():
                turned(a, book)
            self.assertEqual(list(book.items()), list(kept.items()))

    def test_what_is_done_to_the_book_behind_the_call_changes_nothing(self):
        book = {"a": both(B, C)}
        a = turned(leads(A, D), book)
        book["a"] = NEVER
        book["d"] = NEVER
        self.assertEqual(a, leads(both(B, C), D))
        self.assertEqual(turned(leads(A, D), book), leads(NEVER, NEVER))


class AskedAgain(unittest.TestCase):

    def test_the_same_is_told(self):
        for a in samples.middling() + samples.deepest():
            for ask in (joints, knots, letters, parts, told):
                self.assertEqual(ask(a), ask(a))
            self.assertEqual(turned(a, BOOKS[4]), turned(a, BOOKS[4]))


class WhatWasTold(unittest.TestCase):
    """Statements that were told may be handed in again, however large they are."""

    def test_very_deep(self):
        links = A
        for _ in range(40):
            links = leads(leads(links, B), C)
        a = A
        for _ in range(60):
            a = turned(links, {"a": a})
        self.assertEqual(joints(a), 4800)
        self.assertEqual(knots(a), 4799)
        self.assertEqual(letters(a), ["a", "b", "c"])
        self.assertEqual(len(parts(a)), 4803)
        self.assertEqual(len(told(a)), len("a") + 4800 * len("() then b") - len("()"))

    def test_very_broad(self):
        a = A
        for _ in range(14):
            a = turned(both(A, A), {"a": a})
        self.assertEqual(joints(a), 2 ** 14 - 1)
        self.assertEqual(knots(a), 0)
        self.assertEqual(letters(a), ["a"])
        self.assertEqual([joints(b) for b in parts(a)], [2 ** k - 1 for k in range(14, -1, -1)])


if __name__ == "__main__":
    unittest.main()
