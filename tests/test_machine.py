import copy
import unittest

from onlybuilt.code import code
from onlybuilt.machine import run_code
from onlybuilt.papers import shows
from onlybuilt.runs import run
from onlybuilt.shifts import moved
from tests import sample_papers, second_machine
from tests.samples import A, B, NEVER, both, either, leads
from tests.test_code import ONE, U0, U1, closed

MORE = ("more",)
MADE = ("make",)
SAME = leads(A, A)
AT_LEFT, LEFT = either(SAME, B), ("left", ONE, B)
AT_RIGHT, RIGHT = either(A, SAME), ("right", A, ONE)


def used(many):
    """A paper that comes to rest behind the more rows, about twice as many for each of the many."""
    a = both(leads(A, A), leads(A, A))
    paper = ("make", a, U0)
    twice = ("make", leads(a, a), ("make", a, ("apply", U0, ("apply", U0, U1))))
    for _ in range(many):
        paper = ("apply", twice, paper)
    return ("apply", paper, ("pair", ONE, ONE))


class Machine(unittest.TestCase):

    def test_the_example_of_point_41(self):
        rows = code(("apply", ("make", leads(B, B), ("use", 0)), ("make", B, ("use", 0))))
        # make, make, apply, take, back, back
        self.assertEqual(run_code(rows, 10), (MADE, 6))

    def test_each_word(self):
        pair = ("pair", ONE, ("left", ONE, B))
        rows = (
            (ONE, MADE, 2), (pair, ("pair", MADE, ("left", MADE)), 5), (("first", pair), MADE, 6),
            (("second", pair), ("left", MADE), 6), (("right", B, ONE), ("right", MADE), 3),
            (("apply", ("make", leads(A, A), ("pair", U0, U0)), ONE), ("pair", MADE, MADE), 8),
            (("case", ("left", ONE, leads(A, A)), ("left", U0, B), ("left", U0, B), either(leads(A, A), B)),
             ("left", MADE), 7),
            (("case", ("right", NEVER, ONE), ("escape", U0, AT_RIGHT), ("right", A, U0), AT_RIGHT),
             ("right", MADE), 7),
        )
        for paper, shape, many in rows:
            with self.subTest(paper=paper):
                shows([], paper)
                self.assertEqual(run_code(code(paper), 100), (shape, many))

    def is_run(self, paper, shape):
        shows([], paper)
        self.assertEqual(run_code(code(paper), 100)[0], shape)

    def test_given_values_are_those_that_a_make_bears(self):
        # The make within the other one is applied where nothing is given.
        for k, shape in ((0, ("left", MADE)), (1, ("right", MADE))):
            inner = ("apply", ("make", AT_LEFT, ("make", AT_RIGHT, ("use", k))), LEFT)
            self.is_run(("apply", inner, RIGHT), shape)
        # It is applied where another value is given.
        within = ("apply", U0, moved(RIGHT, 0, 1))
        for k, shape in ((0, ("left", MADE)), (1, ("right", MADE))):
            inner = ("apply", ("make", AT_LEFT, ("make", AT_RIGHT, ("use", k))), LEFT)
            a = (AT_LEFT, AT_RIGHT)[k]
            self.is_run(("apply", ("make", leads(AT_RIGHT, a), within), inner), shape)

    def test_behind_a_call_the_given_values_are_those_of_before(self):
        called = ("apply", ("make", AT_RIGHT, U1), moved(RIGHT, 0, 1))
        self.is_run(
            ("apply", ("make", AT_LEFT, ("pair", called, U0)), LEFT), ("pair", ("right", MADE), ("left", MADE))
        )
        case = ("case", ("left", U0, A), ("right", B, U1), ("right", B, ("use", 0)), either(B, AT_LEFT))
        self.is_run(
            ("apply", ("make", AT_LEFT, ("pair", case, U0)), LEFT),
            ("pair", ("right", ("left", MADE)), ("left", MADE)),
        )

    def test_as_told_a_second_time(self):
        for paper, _ in closed():
            rows = code(paper)
            for most in (0, 1, 2, 5, 17, 4000):
                self.assertEqual(run_code(rows, most), second_machine.run_code(rows, most))

    def test_the_last_row_that_is_allowed_and_one_row_before_that(self):
        for paper, _ in closed():
            rows = code(paper)
            shape, many = run_code(rows, 4000)
            self.assertNotEqual(shape, MORE)
            self.assertEqual(run_code(rows, many), (shape, many))
            self.assertEqual(run_code(rows, many - 1), (MORE, many - 1))
            self.assertEqual(run_code(rows, many + 1), (shape, many))

    def test_most_of_none_and_of_4000(self):
        self.assertEqual(run_code(code(ONE), 0), (MORE, 0))
        self.assertEqual(run_code(code(ONE), 1), (MORE, 1))
        self.assertEqual(run_code(code(ONE), 4000), (MADE, 2))
        found = set()
        for many in range(1, 16):
            rows = code(used(many))
            told = run_code(rows, 4000)
            self.assertEqual(told, second_machine.run_code(rows, 4000))
            found.add(told[0])
        self.assertEqual(found, {MORE, ("pair", MADE, MADE)})
        self.assertEqual(run_code(code(used(15)), 4000), (MORE, 4000))
        self.assertEqual(run_code(code(used(15)), 3999), (MORE, 3999))

    def test_just_4000_rows(self):
        paper = ONE
        for _ in range(3998):
            paper = ("left", paper, B)
        rows = code(paper)
        shape, many = run_code(rows, 4000)
        self.assertEqual((shape[0], many), ("left", 4000))
        self.assertEqual(run_code(rows, 3999), (MORE, 3999))
        for _ in range(3998):
            shape = shape[1]
        self.assertEqual(shape, MADE)


class Rest(unittest.TestCase):

    def test_the_shape_is_that_of_the_paper_at_rest(self):
        words = []
        for paper, a in closed():
            shape, _ = run_code(code(paper), 4000)
            self.assertEqual(shape, second_machine.shape_at_rest(paper))
            self.assertEqual(shape[0], {"and": "pair", "then": "make"}.get(a[0], shape[0]))
            words.append(shape[0])
        self.assertEqual(set(words), {"pair", "left", "right", "make"})

    def test_at_each_step_the_same_shape(self):
        for paper, _ in closed(60):
            shape, _ = run_code(code(paper), 4000)
            for steps in range(4):
                after = run(0, paper, steps, 2000)[1]
                self.assertEqual(run_code(code(after), 4000)[0], shape)

    def test_papers_of_a_depth_of_100(self):
        for givens, paper, a in sample_papers.deepest():
            for given in givens[::-1]:
                paper = ("make", given, paper)
            self.assertEqual(run_code(code(paper), 4000), (MADE, 2))
        paper, other = ONE, ONE
        for k in range(98):
            paper = ("apply", ("make", SAME, U0), paper)
            other = ("left", other, B) if k % 2 else ("right", B, other)
        self.assertEqual(run_code(code(paper), 4000)[0], MADE)
        self.assertEqual(run_code(code(other), 4000)[0], second_machine.rest_shape(other))
        self.assertEqual(run_code(code(("pair", paper, other)), 4000)[0][0], "pair")


class Purity(unittest.TestCase):

    def test_rows_stay_as_they_were_and_asked_again_the_same_is_told(self):
        for paper, a in closed(60):
            rows = code(paper)
            before = copy.deepcopy(rows)
            told = run_code(rows, 4000)
            self.assertEqual(rows, before)
            self.assertEqual(run_code(rows, 4000), told)
            self.assertEqual(shows([], paper), a)


if __name__ == "__main__":
    unittest.main()
