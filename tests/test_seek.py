import copy
import unittest

from onlybuilt.growths import holds, is_growth
from onlybuilt.papers import shows
from onlybuilt.reader import read
from onlybuilt.seek import seek
from onlybuilt.shifts import deep
from tests import sample_rooms, samples, second, second_growths, second_papers, second_steps
from tests.refused import refused
from tests.samples import A, B, C, D, NEVER, both, either, leads


class Rooms(unittest.TestCase):

    def is_told(self, givens, goal):
        """Check all that 27 asks of what is told, and tell the word of it."""
        word, told = seek(givens, goal)
        if word == "paper":
            self.assertEqual(shows(givens, told), goal)
            self.assertEqual(second_papers.shows({}, givens, told), goal)
            self.assertEqual(second_steps.names(told), [])
            self.assertLessEqual(deep(told), 200)
            return word
        self.assertEqual(word, "growth")
        self.assertTrue(is_growth(told) and second_growths.is_growth(told))
        self.assertLessEqual(len(told), 1000)
        for a in givens:
            self.assertTrue(holds(told, 0, a) and second_growths.holds(told, 0, a))
        self.assertFalse(holds(told, 0, goal) or second_growths.holds(told, 0, goal))
        known = {name for a in [*givens, goal] for name in second.letters(a)}
        self.assertLessEqual({name for names, _ in told for name in names}, known)
        return word

    def test_what_is_shown(self):
        for givens, goal in sample_rooms.told(sample_rooms.SHOWN):
            with self.subTest(givens=givens, goal=goal):
                self.assertEqual(self.is_told(givens, goal), "paper")

    def test_what_is_not_shown(self):
        for givens, goal in sample_rooms.told(sample_rooms.BARRED):
            with self.subTest(givens=givens, goal=goal):
                self.assertEqual(self.is_told(givens, goal), "growth")

    def test_named_goals(self):
        middle = either(A, leads(A, NEVER))
        self.assertEqual(self.is_told([], middle), "growth")
        self.assertEqual(self.is_told([], leads(leads(middle, NEVER), NEVER)), "paper")
        self.assertEqual(self.is_told([leads(leads(A, NEVER), NEVER)], middle), "growth")
        self.assertEqual(self.is_told([A], middle), "paper")
        self.assertEqual(self.is_told([leads(A, NEVER)], middle), "paper")

    def test_every_joint_on_either_side(self):
        for word in samples.WORDS:
            for left in (A, B, NEVER):
                for right in (A, C, NEVER):
                    joint = (word, left, right)
                    for other in (A, B, C, NEVER, both(A, C), either(B, C), leads(B, C)):
                        self.is_told([joint], other)
                        self.is_told([other], joint)
                        self.is_told([joint, other], joint)

    def test_each_of_all_small_rooms(self):
        found = {"paper": 0, "growth": 0}
        for givens, goal in sample_rooms.small():
            found[self.is_told(givens, goal)] += 1
        self.assertGreater(min(found.values()), 500)

    def test_scattered_rooms(self):
        found = {"paper": 0, "growth": 0}
        for givens, goal in sample_rooms.scattered(4000, 14):
            found[self.is_told(givens, goal)] += 1
        self.assertGreater(min(found.values()), 1000)

    def test_just_ten_joints_and_four_knots(self):
        for givens, goal in sample_rooms.at_the_bounds():
            with self.subTest(givens=givens, goal=goal):
                whole = [*givens, goal]
                self.assertEqual(sum(map(second.joints, whole)), 10)
                self.assertEqual(sum(map(second.knots, whole)), 4)
                self.is_told(givens, goal)

    def test_sixty_givens(self):
        shown, barred = sample_rooms.sixty()
        for rooms, word in ((shown, "paper"), (barred, "growth")):
            for givens, goal in rooms:
                self.assertEqual(self.is_told(givens, goal), word)
        self.assertEqual({len(givens) for givens, _ in [*shown, *barred]}, {60})

    def test_letters_alone(self):
        self.assertEqual(seek([], A), ("growth", [([], [])]))
        self.assertEqual(seek([B], A), ("growth", [(["b"], [])]))
        self.assertEqual(seek([A], A), ("paper", ("use", 0)))
        self.assertEqual(seek([], NEVER), ("growth", [([], [])]))
        self.assertEqual(seek([NEVER], A), ("paper", ("escape", ("use", 0), A)))


class Refused(unittest.TestCase):

    def is_refused(self, givens, goal):
        refused(self, "TooLarge", seek, givens, goal)

    def chain(self, many):
        """A statement of so many joints and no knots."""
        a = A
        for _ in range(many):
            a = both(B, a)
        return a

    def ors(self, many):
        a = A
        for _ in range(many):
            a = either(a, B)
        return a

    def test_joints(self):
        self.assertEqual(seek([], self.chain(10))[0], "growth")
        self.is_refused([], self.chain(11))
        self.assertEqual(seek([self.chain(10)], B)[0], "paper")
        self.is_refused([self.chain(11)], B)
        self.assertEqual(seek([self.chain(5)], self.chain(5))[0], "paper")
        self.is_refused([self.chain(5)], self.chain(6))
        self.is_refused([self.chain(6)], self.chain(5))
        for word in samples.WORDS:
            self.is_refused([(word, A, B)] * 10, (word, A, B))

    def test_a_given_counts_as_often_as_it_stands_in_the_list(self):
        self.assertEqual(seek([self.chain(5)] * 2, B)[0], "paper")
        self.is_refused([self.chain(5)] * 2, both(A, B))
        self.is_refused([self.chain(1)] * 11, B)
        self.assertEqual(seek([self.ors(2)] * 2, B)[0], "growth")
        self.is_refused([self.ors(2)] * 2, either(A, B))
        self.is_refused([self.ors(1)] * 5, B)

    def test_knots(self):
        self.assertEqual(seek([], self.ors(4))[0], "growth")
        self.is_refused([], self.ors(5))
        self.is_refused([self.ors(5)], B)
        self.is_refused([self.ors(2)], self.ors(3))
        inner = leads(leads(A, B), C)
        self.assertEqual(seek([inner] * 4, A)[0], "growth")
        self.is_refused([inner] * 5, A)
        self.is_refused([inner] * 4, either(A, B))
        nested = leads(leads(leads(leads(leads(leads(A, B), C), A), B), C), A)
        self.assertEqual(second.knots(nested), 5)
        self.is_refused([], nested)
        # Thens that stand in no left part are no knots.
        self.assertEqual(seek([], read("a then b then c then d then a then b then c then e"))[0], "growth")

    def test_much_too_large(self):
        for a in samples.deepest():
            self.is_refused([a], B)
            self.is_refused([], a)
        a = A
        for _ in range(3000):
            a = leads(B, a)
        self.is_refused([a], B)


class Purity(unittest.TestCase):

    def test_what_is_handed_in_stays_as_it_was(self):
        for givens, goal in sample_rooms.scattered(200, 15):
            before = copy.deepcopy(givens)
            seek(givens, goal)
            self.assertEqual(givens, before)
        givens = [either(A, B)] * 5
        with self.assertRaises(ValueError):
            seek(givens, B)
        self.assertEqual(givens, [either(A, B)] * 5)

    def test_asked_again_the_same_is_told_and_growths_are_new(self):
        for givens, goal in [*sample_rooms.scattered(200, 16), *sample_rooms.told(sample_rooms.BARRED)]:
            expected = copy.deepcopy(seek(givens, goal))
            word, told = seek(givens, goal)
            if word == "growth":
                for names, above in told:
                    names.append("z")
                    above.append(0)
                told.clear()
            self.assertEqual(seek(givens, goal), expected)

    def test_what_is_done_behind_the_call_changes_nothing(self):
        givens = [A, leads(A, B)]
        word, told = seek(givens, B)
        givens.clear()
        self.assertEqual(shows([A, leads(A, B)], told), B)
        self.assertEqual(seek(givens, B)[0], "growth")

    def test_a_statement_that_was_told_may_be_handed_in(self):
        a = shows([], ("make", both(C, D), ("first", ("use", 0))))
        self.assertEqual(seek([], a)[0], "paper")
        self.assertEqual(seek([a, both(C, D)], C)[0], "paper")


if __name__ == "__main__":
    unittest.main()
