import copy
import unittest
from random import Random

from onlybuilt.doubles import doubled
from onlybuilt.growths import holds
from onlybuilt.papers import shows
from onlybuilt.reader import read
from onlybuilt.shifts import deep
from onlybuilt.tables import true_at, twice
from tests import sample_rooms, samples, second, second_papers, second_steps, second_tables
from tests.refused import refused
from tests.samples import A, B, C, D, NEVER, both, either, leads


class TrueAt(unittest.TestCase):

    def test_each_form(self):
        rows = (
            ("a", ["a"], True), ("a", [], False), ("a", ["b"], False), ("never", ["a"], False),
            ("a and b", ["a", "b"], True), ("a and b", ["a"], False), ("a and b", ["b"], False),
            ("a or b", ["a"], True), ("a or b", ["b"], True), ("a or b", [], False),
            ("a then b", [], True), ("a then b", ["b"], True), ("a then b", ["a"], False),
            ("a then b", ["a", "b"], True), ("a or (a then never)", [], True), ("a or (a then never)", ["a"], True),
            ("((a then b) then a) then a", [], True), ("((a then b) then a) then a", ["a"], True),
            ("never then never", [], True), ("never or never", ["a"], False),
        )
        for text, row, truth in rows:
            with self.subTest(text=text, row=row):
                self.assertIs(true_at(row, read(text)), truth)

    def test_as_told_a_second_time(self):
        pick = Random(41)
        for a in samples.every():
            names = ["a", "b", "c", "d", "e", "by", "ands", "abcdefgh"]
            for _ in range(4):
                row = [name for name in names if pick.randrange(2)]
                self.assertIs(true_at(row, a), second_tables.true_at(row, a))

    def test_rows_in_any_order_with_other_names_and_one_twice(self):
        a = read("a and b or (c then d)")
        for row in (["b", "a"], ["b", "a", "b"], ["zz", "b", "x", "a"], ["a", "a", "b", "b", "c", "aa"]):
            self.assertIs(true_at(row, a), True)
        for row in (["c", "a"], ["c", "zz", "c"], ["zz", "c", "ab"]):
            self.assertIs(true_at(row, a), False)
        self.assertIs(true_at(["and", "", "A B"], A), False)

    def test_a_row_is_a_growth_of_one_stand(self):
        for a in samples.small():
            for row in ([], ["a"], ["b"], ["a", "b"]):
                self.assertIs(true_at(row, a), holds([(row, [])], 0, a))

    def test_twelve_letters(self):
        names = "abcdefghijkl"
        a = NEVER
        for name in names:
            a = either(a, samples.letter(name))
        self.assertIs(true_at(list(names), a), True)
        self.assertIs(true_at([], a), False)
        for name in names:
            self.assertIs(true_at([name], a), True)

    def test_deeper_than_calls_may_be(self):
        a = B
        for _ in range(4000):
            a = leads(A, a)
        self.assertIs(true_at(["a"], a), False)
        self.assertIs(true_at([], a), True)

    def test_rows_stay_as_they_were(self):
        row = ["b", "a", "b"]
        true_at(row, leads(A, B))
        self.assertEqual(row, ["b", "a", "b"])


class Twice(unittest.TestCase):

    def is_told(self, givens, goal):
        """Check all that 31 asks of what is told, and tell the word of it."""
        word, answer = twice(givens, goal)
        if word == "paper":
            a = second_tables.doubled(goal)
            self.assertEqual(shows(givens, answer), a)
            self.assertEqual(second_papers.shows({}, givens, answer), a)
            self.assertEqual(second_steps.names(answer), [])
            self.assertLessEqual(deep(answer), 200)
            return word
        self.assertEqual(word, "row")
        self.assertEqual(answer, sorted(set(answer)))
        self.assertLessEqual(set(answer), {name for a in [*givens, goal] for name in second.letters(a)})
        self.assertTrue(all(second_tables.true_at(answer, a) for a in givens))
        self.assertFalse(second_tables.true_at(answer, goal))
        return word

    def fits(self, givens, goal):
        return sample_rooms.fits(givens, second_tables.doubled(goal))

    def test_what_the_table_has(self):
        rows = (
            ([], "a or (a then never)"), ([], "((a then b) then a) then a"), ([], "(a then b) or (b then a)"),
            (["(a then never) then never"], "a"), (["a then b", "(a then never) then b"], "b"),
            (["a", "a then b"], "b"), (["a and never"], "b"), ([], "never then a"), (["(a then b) then a"], "a"),
            (["a then b or c", "b then never"], "a then c"), (["a", "a then never"], "never"), ([], "a then a"),
        )
        for givens, goal in rows:
            with self.subTest(givens=givens, goal=goal):
                self.assertEqual(self.is_told([read(text) for text in givens], read(goal)), "paper")

    def test_what_the_table_has_not(self):
        rows = (
            ([], "a", []), ([], "never", []), (["a"], "b", ["a"]), (["a or b"], "a", ["b"]), ([], "a or b", []),
            (["a then b"], "b", []), (["b"], "b then a", ["b"]), (["a", "a then b"], "c", ["a", "b"]),
            (["a", "b", "c"], "a and never", ["a", "b", "c"]), (["c", "b"], "c then b then a", ["b", "c"]),
        )
        for givens, goal, row in rows:
            with self.subTest(givens=givens, goal=goal):
                givens = [read(text) for text in givens]
                self.assertEqual(self.is_told(givens, read(goal)), "row")
                self.assertEqual(twice(givens, read(goal)), ("row", row))

    def test_each_of_all_small_rooms(self):
        found = {"paper": 0, "row": 0}
        for givens, goal in sample_rooms.small():
            if self.fits(givens, goal):
                word = self.is_told(givens, goal)
                self.assertEqual(word, "paper" if second_tables.is_had(givens, goal) else "row")
                found[word] += 1
        self.assertGreater(min(found.values()), 500)

    def test_scattered_rooms(self):
        found = {"paper": 0, "row": 0}
        for givens, goal in sample_rooms.scattered(8000, 42):
            if self.fits(givens, goal):
                word = self.is_told(givens, goal)
                self.assertEqual(word, "paper" if second_tables.is_had(givens, goal) else "row")
                found[word] += 1
        self.assertGreater(min(found.values()), 300)

    def test_a_given_twice(self):
        self.assertEqual(self.is_told([A, A, leads(A, B)], B), "paper")
        self.assertEqual(self.is_told([A, A], B), "row")

    def test_twelve_letters(self):
        names = [samples.letter(name) for name in "abcdefghijkl"]
        self.assertEqual(twice(names[:11], names[11]), ("row", list("abcdefghijk")))
        self.assertEqual(twice(names, names[3])[0], "paper")
        self.assertEqual(self.is_told(names, names[3]), "paper")
        ors = [either(a, b) for a, b in zip(names[:3], names[3:6])]
        self.assertEqual(self.is_told([*ors, *names[6:11]], names[11]), "row")
        ands = both(both(names[0], names[1]), both(names[2], names[3]))
        self.assertEqual(self.is_told([*names[4:], leads(names[11], ands)], names[2]), "paper")
        self.assertEqual(self.is_told([*names[4:11], leads(names[11], ands)], names[2]), "row")


class Refused(unittest.TestCase):

    def is_refused(self, givens, goal):
        refused(self, "TooLarge", twice, givens, goal)

    def test_the_goal_doubled_stands_in_the_place_of_the_goal(self):
        # The goal doubled has two joints more, and one knot more.
        eight = A
        for _ in range(8):
            eight = both(eight, B)
        self.assertEqual(twice([], eight), ("row", []))
        self.is_refused([], both(eight, B))
        self.assertEqual(twice([eight], A)[0], "paper")
        self.is_refused([both(eight, B)], A)
        self.assertEqual(twice([both(A, B)] * 6, both(both(A, B), B))[0], "paper")
        self.is_refused([both(A, B)] * 7, both(both(A, B), B))

    def test_knots(self):
        self.assertEqual(twice([either(A, B)] * 3, C)[0], "row")
        self.is_refused([either(A, B)] * 4, C)
        self.assertEqual(twice([], either(either(A, B), either(C, D))), ("row", []))
        self.is_refused([either(A, B)], either(either(A, B), either(C, D)))
        # Thens of the goal stand in a left part as soon as it is doubled.
        self.assertEqual(twice([], leads(A, leads(B, leads(C, A))))[0], "paper")
        self.is_refused([], leads(A, leads(B, leads(C, leads(D, A)))))
        self.assertEqual(twice([leads(A, leads(B, leads(C, leads(D, A))))], A)[0], "row")

    def test_just_ten_joints_and_four_knots(self):
        goal = read("(a then b) or (c then d)")
        givens = [read("a and b and c and d"), read("a and b and c")]
        whole = [*givens, second_tables.doubled(goal)]
        self.assertEqual(sum(map(second.joints, whole)), 10)
        self.assertEqual(sum(map(second.knots, whole)), 4)
        self.assertEqual(twice(givens, goal)[0], "paper")
        self.is_refused([*givens, both(A, B)], goal)
        self.is_refused([*givens[:1], either(A, B)], goal)

    def test_much_too_large(self):
        for a in samples.deepest():
            self.is_refused([a], B)
            self.is_refused([], a)


class Purity(unittest.TestCase):

    def test_what_is_handed_in_stays_and_what_is_told_is_new(self):
        for givens, goal in sample_rooms.scattered(600, 43):
            if sample_rooms.fits(givens, second_tables.doubled(goal)):
                before = copy.deepcopy(givens)
                expected = copy.deepcopy(twice(givens, goal))
                word, answer = twice(givens, goal)
                if word == "row":
                    answer.append("zz")
                self.assertEqual(givens, before)
                self.assertEqual(twice(givens, goal), expected)

    def test_never_both(self):
        # What is shown doubled is true wherever all givens are.
        for givens, goal in sample_rooms.scattered(400, 44):
            if sample_rooms.fits(givens, doubled(goal)) and twice(givens, goal)[0] == "paper":
                for row in second_tables.rows([*givens, goal]):
                    if all(true_at(row, a) for a in givens):
                        self.assertTrue(true_at(row, goal) and true_at(row, doubled(goal)))


if __name__ == "__main__":
    unittest.main()
