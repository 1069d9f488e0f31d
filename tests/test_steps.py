import unittest

from onlybuilt.papers import shows, shows_by
from onlybuilt.steps import step
from tests import sample_papers, second_papers, second_steps
from tests.sample_papers import BOOK
from tests.samples import A, B, C, D, NEVER, both, either, leads

U0, U1, U2, U3, U4 = [("use", k) for k in range(5)]
P, Q, R, S = [("name", text) for text in "pqrs"]
HUGE = 10 ** 50


class TakenAway(unittest.TestCase):

    def test_first_and_second_of_a_pair(self):
        self.assertEqual(step(0, ("first", ("pair", P, Q))), P)
        self.assertEqual(step(0, ("second", ("pair", P, Q))), Q)

    def test_apply_of_a_make(self):
        self.assertEqual(step(0, ("apply", ("make", A, U0), P)), P)
        self.assertEqual(step(2, ("apply", ("make", A, ("pair", U2, U1)), U0)), ("pair", U0, U1))
        self.assertEqual(step(2, ("apply", ("make", A, U1), P)), U1)
        # Within the make the number of what it assumed is free again.
        self.assertEqual(
            step(1, ("apply", ("make", A, ("make", B, ("pair", U1, U2))), U0)),
            ("make", B, ("pair", U0, U1)),
        )
        # What is put in is moved by what is assumed round its place.
        self.assertEqual(
            step(1, ("apply", ("make", A, ("make", B, U1)), ("make", C, ("pair", U0, U1)))),
            ("make", B, ("make", C, ("pair", U0, U2))),
        )

    def test_case_of_a_left(self):
        paper = ("case", ("left", P, B), ("pair", U0, U1), R, C)
        self.assertEqual(step(1, paper), ("pair", U0, P))
        self.assertEqual(step(0, paper), ("pair", P, U0))
        self.assertEqual(step(1, ("case", ("left", U0, B), ("make", D, U1), R, C)), ("make", D, U0))
        self.assertEqual(
            step(1, ("case", ("left", ("make", A, U1), B), ("make", D, ("pair", U1, U2)), R, C)),
            ("make", D, ("pair", ("make", A, U2), U1)),
        )

    def test_case_of_a_right(self):
        paper = ("case", ("right", A, P), Q, ("pair", U0, U1), C)
        self.assertEqual(step(1, paper), ("pair", U0, P))
        self.assertEqual(step(0, paper), ("pair", P, U0))
        self.assertEqual(
            step(1, ("case", ("right", A, ("make", A, U1)), Q, ("make", D, ("pair", U1, U2)), C)),
            ("make", D, ("pair", ("make", A, U2), U1)),
        )

    def test_at_n_what_is_assumed_round_the_place_counts(self):
        self.assertEqual(
            step(2, ("make", A, ("apply", ("make", B, ("pair", U3, U2)), U0))),
            ("make", A, ("pair", U0, U2)),
        )
        inner = ("apply", ("make", B, ("pair", U3, U2)), U0)
        self.assertEqual(step(2, ("case", U0, inner, U1, C)), ("case", U0, ("pair", U0, U2), U1, C))
        self.assertEqual(step(2, ("case", U0, U1, inner, C)), ("case", U0, U1, ("pair", U0, U2), C))
        inner = ("apply", ("make", B, ("pair", U2, U1)), U0)
        self.assertEqual(step(2, ("case", inner, U1, U1, C)), ("case", ("pair", U0, U1), U1, U1, C))
        self.assertEqual(
            step(0, ("make", A, ("make", B, ("apply", ("make", C, U2), U1)))), ("make", A, ("make", B, U1))
        )

    def test_very_many_given(self):
        self.assertEqual(step(HUGE, ("apply", ("make", A, ("use", HUGE)), U0)), U0)
        self.assertEqual(step(HUGE, ("apply", ("make", A, ("use", HUGE + 1)), U0)), ("use", HUGE))


class Lifted(unittest.TestCase):

    def test_examples_of_point_23(self):
        paper = ("first", ("case", P, Q, R, both(A, B)))
        self.assertEqual(step(3, paper), ("case", P, ("first", Q), ("first", R), A))
        paper = ("apply", ("case", P, Q, R, leads(A, B)), U0)
        self.assertEqual(step(1, paper), ("case", P, ("apply", Q, U0), ("apply", R, U0), B))

    def test_a_second(self):
        paper = ("second", ("case", P, Q, R, both(A, B)))
        self.assertEqual(step(3, paper), ("case", P, ("second", Q), ("second", R), B))

    def test_an_apply_moves_its_other_paper_by_one_at_n(self):
        other = ("pair", U0, ("make", C, ("pair", U1, U2)))
        there = ("pair", U0, ("make", C, ("pair", U1, U3)))
        paper = ("apply", ("case", P, U2, Q, leads(A, B)), other)
        self.assertEqual(step(2, paper), ("case", P, ("apply", U2, there), ("apply", Q, there), B))
        there = ("pair", U0, ("make", C, ("pair", U2, U3)))
        self.assertEqual(step(1, paper), ("case", P, ("apply", U2, there), ("apply", Q, there), B))

    def test_a_case_moves_both_its_other_papers(self):
        paper = ("case", ("case", P, U1, Q, either(A, B)), ("pair", U0, U1), ("pair", U1, U2), C)
        self.assertEqual(
            step(1, paper),
            ("case", P,
             ("case", U1, ("pair", U0, U2), ("pair", U2, U3), C),
             ("case", Q, ("pair", U0, U2), ("pair", U2, U3), C), C),
        )

    def test_an_escape_of_a_case(self):
        paper = ("escape", ("case", P, Q, R, NEVER), both(A, B))
        self.assertEqual(
            step(1, paper),
            ("case", P, ("escape", Q, both(A, B)), ("escape", R, both(A, B)), both(A, B)),
        )

    def test_of_an_escape(self):
        self.assertEqual(step(1, ("first", ("escape", P, both(A, B)))), ("escape", P, A))
        self.assertEqual(step(1, ("second", ("escape", P, both(A, B)))), ("escape", P, B))
        self.assertEqual(step(1, ("apply", ("escape", P, leads(A, B)), U0)), ("escape", P, B))
        self.assertEqual(
            step(1, ("case", ("escape", P, either(A, B)), U1, U1, C)), ("escape", P, C)
        )
        self.assertEqual(step(1, ("escape", ("escape", P, NEVER), C)), ("escape", P, C))

    def test_at_n_what_is_assumed_round_the_place_counts(self):
        chief = ("case", P, Q, R, leads(A, B))
        self.assertEqual(
            step(1, ("make", C, ("apply", chief, ("pair", U1, U2)))),
            ("make", C, ("case", P, ("apply", Q, ("pair", U1, U3)), ("apply", R, ("pair", U1, U3)), B)),
        )
        self.assertEqual(
            step(1, ("case", U0, ("apply", chief, U1), U0, B)),
            ("case", U0, ("case", P, ("apply", Q, U1), ("apply", R, U1), B), U0, B),
        )

    def test_the_chief_paper_stays_as_it_is(self):
        chief = ("case", U0, ("pair", U1, U2), ("pair", U2, U1), both(A, B))
        self.assertEqual(
            step(1, ("first", chief)),
            ("case", U0, ("first", ("pair", U1, U2)), ("first", ("pair", U2, U1)), A),
        )

    def test_no_other_paper_is_lifted(self):
        chiefs = (("case", U0, U1, U1, NEVER), ("escape", U0, A))
        for chief in chiefs:
            for paper in (
                ("pair", chief, U0), ("pair", U0, chief), ("left", chief, A), ("right", A, chief),
                ("make", A, chief), ("apply", U0, chief), ("case", U0, chief, U0, A),
                ("case", U0, U0, chief, A), chief,
            ):
                self.assertIsNone(step(1, paper))


class WhichStep(unittest.TestCase):

    def test_at_rest(self):
        for paper in (
            U0, P, ("pair", U0, U1), ("first", U0), ("second", P), ("left", U0, A), ("right", A, U0),
            ("case", U0, U1, U1, A), ("make", A, U0), ("apply", U0, U1), ("escape", U0, A),
            ("first", ("second", U0)), ("apply", ("apply", U0, U1), ("make", A, U0)),
            ("first", ("left", U0, A)), ("case", ("pair", U0, U1), U0, U0, A), ("second", ("make", A, U0)),
            ("apply", ("pair", U0, U1), U0), ("escape", ("make", A, U0), A),
        ):
            self.assertIsNone(step(0, paper))
            self.assertIsNone(step(5, paper))

    def test_the_paper_itself_ahead_of_those_within_it(self):
        within = ("first", ("pair", P, Q))
        self.assertEqual(step(0, ("first", ("pair", within, within))), within)
        self.assertEqual(
            step(0, ("apply", ("make", A, ("pair", U0, within)), within)), ("pair", within, within)
        )
        self.assertEqual(
            step(0, ("escape", ("escape", ("escape", P, NEVER), NEVER), A)),
            ("escape", ("escape", P, NEVER), A),
        )

    def test_those_right_within_it_in_their_order(self):
        may, done = ("first", ("pair", P, Q)), P
        for word in ("pair", "apply"):
            self.assertEqual(step(0, (word, may, may)), (word, done, may))
            self.assertEqual(step(0, (word, U0, may)), (word, U0, done))
        self.assertEqual(step(0, ("case", may, may, may, A)), ("case", done, may, may, A))
        self.assertEqual(step(0, ("case", P, may, may, A)), ("case", P, done, may, A))
        self.assertEqual(step(0, ("case", P, Q, may, A)), ("case", P, Q, done, A))
        for paper, after in (
            (("first", may), ("first", done)), (("second", may), ("second", done)),
            (("left", may, A), ("left", done, A)), (("right", A, may), ("right", A, done)),
            (("make", A, may), ("make", A, done)), (("escape", may, A), ("escape", done, A)),
        ):
            self.assertEqual(step(0, paper), after)

    def test_the_first_part_wholly_ahead_of_the_next(self):
        may = ("first", ("pair", P, Q))
        deep = ("pair", U0, ("left", ("pair", U1, may), A))
        self.assertEqual(
            step(0, ("pair", deep, may)), ("pair", ("pair", U0, ("left", ("pair", U1, P), A)), may)
        )

    def test_all_steps_as_told_a_second_time(self):
        many = 0
        for book in ({}, BOOK):
            for givens, paper, _ in sample_papers.papers(book):
                while paper is not None:
                    told = step(len(givens), paper)
                    self.assertEqual(told, second_steps.step(len(givens), paper))
                    paper = told
                    many += 1
        self.assertGreater(many, 1000)

    def test_at_the_bounds(self):
        rows = sample_papers.deepest()
        for givens, paper, a in rows:
            for _ in range(20):
                told = step(len(givens), paper)
                self.assertEqual(told, second_steps.step(len(givens), paper))
                if told is None:
                    break
                self.assertEqual(shows(givens, told), a)
                paper = told


class Kept(unittest.TestCase):

    def test_a_step_keeps_what_is_shown(self):
        for book in ({}, BOOK):
            for givens, paper, a in sample_papers.papers(book):
                while paper is not None:
                    self.assertEqual(shows_by(book, givens, paper), a)
                    paper = step(len(givens), paper)

    def test_at_rest_it_speaks_of_parts_alone(self):
        for book in ({}, BOOK):
            for givens, paper, _ in sample_papers.papers(book, 200):
                following = paper
                while following is not None:
                    paper, following = following, step(len(givens), following)
                allowed = second_steps.allowed(book, givens, paper)
                for a in second_steps.spoken(book, givens, paper):
                    self.assertIn(a, allowed)

    def test_at_rest_from_no_givens_its_word_is_that_of_what_it_shows(self):
        words = {"or": ("left", "right"), "and": ("pair",), "then": ("make",)}
        found = []
        for seed in range(400):
            paper, a = sample_papers.Grower(seed, {}).grown([], 3 + seed % 20)
            following = paper
            while following is not None:
                paper, following = following, step(0, following)
            self.assertIn(paper[0], words[a[0]])
            found.append(paper[0])
        self.assertEqual(set(found), {"left", "right", "pair", "make"})

    def test_papers_that_are_deeper_than_calls_may_be(self):
        paper = ("first", ("pair", P, Q))
        for _ in range(3000):
            paper = ("left", ("pair", U0, paper), A)
        told = step(1, paper)
        for _ in range(3000):
            told = told[1][2]
        self.assertEqual(told, P)

    def test_what_was_told_may_be_stepped_on_and_asked_again(self):
        for givens, paper, _ in sample_papers.papers(many=40):
            told = [paper]
            while told[-1] is not None:
                told.append(step(len(givens), told[-1]))
            again = [step(len(givens), one) for one in told[:-1]]
            self.assertEqual(again, told[1:])
            self.assertEqual(second_papers.shows({}, givens, told[-2]), second_papers.shows({}, givens, paper))


if __name__ == "__main__":
    unittest.main()
