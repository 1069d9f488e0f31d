import unittest

from onlybuilt.papers import shows_by
from onlybuilt.runs import run
from onlybuilt.shifts import deep, moved, put_in, size
from onlybuilt.steps import step
from tests import sample_papers, second_steps
from tests.sample_papers import BOOK
from tests.samples import A, B, both, leads

U0, U1 = ("use", 0), ("use", 1)
TWO = ("first", ("pair", ("first", ("pair", U0, U1)), U1))
DOUBLING = ("make", A, ("pair", U1, U1))


def firsts(many):
    """A paper that comes to rest by just so many steps, from two givens."""
    paper = U0
    for _ in range(many):
        paper = ("first", ("pair", paper, U1))
    return paper


def growing(many):
    """A paper whose next one, a pair of parts of that size, has a size of 2 * many + 1; one is given."""
    part = U0
    for _ in range(many // 2):
        part = ("pair", part, U0) if size(part) + 2 <= many else part
    while size(part) < many:
        part = ("left", part, B)
    return ("apply", DOUBLING, part)


class Run(unittest.TestCase):

    def test_rest(self):
        self.assertEqual(run(2, U0, 0, 0), ("rest", U0, 0))
        self.assertEqual(run(2, TWO, 10, 10), ("rest", U0, 2))
        self.assertEqual(run(0, ("make", A, U0), 5, 1), ("rest", ("make", A, U0), 0))

    def test_more(self):
        self.assertEqual(run(2, TWO, 1, 10), ("more", ("first", ("pair", U0, U1)), 1))
        self.assertEqual(run(2, TWO, 0, 10), ("more", TWO, 0))

    def test_large(self):
        paper = ("apply", DOUBLING, ("pair", U0, U0))
        self.assertEqual(size(paper), 8)
        self.assertEqual(run(1, paper, 9, 6), ("large", paper, 0))
        self.assertEqual(run(1, paper, 9, 7), ("rest", ("pair", ("pair", U0, U0), ("pair", U0, U0)), 1))

    def test_rest_ahead_of_more(self):
        # It is at rest behind as many steps as were told.
        for many in range(6):
            self.assertEqual(run(2, firsts(many), many, 100), ("rest", U0, many))
            if many:
                self.assertEqual(run(2, firsts(many), many - 1, 100)[0::2], ("more", many - 1))
            self.assertEqual(run(2, firsts(many), many + 1, 100), ("rest", U0, many))

    def test_more_ahead_of_large(self):
        paper = ("apply", DOUBLING, ("pair", U0, U0))
        self.assertEqual(run(1, paper, 0, 0), ("more", paper, 0))
        self.assertEqual(run(1, paper, 1, 0), ("large", paper, 0))
        first = ("first", ("pair", paper, U0))
        self.assertEqual(run(1, first, 1, 8), ("more", paper, 1))
        self.assertEqual(run(1, first, 1, 7), ("large", first, 0))

    def test_no_steps_at_all(self):
        for givens, paper, _ in sample_papers.papers(many=60):
            word = "rest" if step(len(givens), paper) is None else "more"
            self.assertEqual(run(len(givens), paper, 0, 1000), (word, paper, 0))
            self.assertEqual(run(len(givens), paper, 0, 0), (word, paper, 0))

    def test_a_room_that_the_next_just_fits_and_one_that_it_passes_by_one(self):
        for many in (1, 2, 3, 10, 100):
            paper = growing(many)
            following = step(1, paper)
            self.assertEqual(size(following), 2 * many + 1)
            self.assertEqual(run(1, paper, 9, 2 * many + 1), ("rest", following, 1))
            self.assertEqual(run(1, paper, 9, 2 * many), ("large", paper, 0))

    def test_a_first_paper_that_is_larger_than_the_room(self):
        paper = firsts(20)
        self.assertEqual(size(paper), 61)
        # Its next papers have sizes of 58, 55 and so on.
        self.assertEqual(run(2, paper, 99, 57), ("large", paper, 0))
        self.assertEqual(run(2, paper, 99, 58), ("rest", U0, 20))
        self.assertEqual(run(2, paper, 0, 3), ("more", paper, 0))
        kept, _ = sample_papers.of_size(300)
        self.assertEqual(run(1, kept, 9, 5), ("rest", kept, 0))

    def test_a_depth_of_200_and_of_201(self):
        for depth, word in ((199, "rest"), (200, "rest"), (201, "large"), (202, "large")):
            part = U0
            for _ in range(depth // 2):
                part = ("left", part, B)
            within = ("use", 1)
            for _ in range(depth - depth // 2 - 1):
                within = ("left", within, B)
            paper = ("apply", ("make", A, within), part)
            self.assertEqual(deep(step(1, paper)), depth)
            told, after, done = run(1, paper, 9, 1000)
            self.assertEqual(told, word)
            self.assertEqual((after, done), (paper, 0) if word == "large" else (step(1, paper), 1))

    def test_large_behind_some_steps(self):
        # The paper told is the last one that was not too large.
        paper = ("first", ("pair", ("apply", DOUBLING, ("pair", U0, U0)), U0))
        self.assertEqual(run(1, paper, 9, 8)[0::2], ("rest", 2))
        inner = ("apply", DOUBLING, ("apply", DOUBLING, ("pair", U0, U0)))
        word, after, done = run(1, inner, 9, 11)
        self.assertEqual((word, done), ("large", 0))
        word, after, done = run(1, ("first", ("pair", inner, U0)), 9, 14)
        self.assertEqual((word, after, done), ("large", inner, 1))

    def test_a_next_paper_that_is_far_too_large(self):
        doubled = ("pair", U0, U0)
        for _ in range(4):
            doubled = put_in(doubled, 0, doubled)
        self.assertEqual(size(doubled), 2 ** 17 - 1)
        # Its next one has some four thousand millions of papers.
        paper = ("apply", ("make", A, moved(doubled, 0, 1)), doubled)
        word, after, done = run(1, paper, 5, 1000)
        self.assertEqual((word, done), ("large", 0))
        self.assertIs(after, paper)

    def test_as_told_a_second_time(self):
        found = {"rest": 0, "more": 0, "large": 0}
        for book in ({}, BOOK):
            for givens, paper, _ in sample_papers.papers(book):
                for steps, room in ((0, 9), (1, 20), (2, 5), (4, 1000), (1000, 1000), (1000, 12)):
                    told = run(len(givens), paper, steps, room)
                    self.assertEqual(told, second_steps.run(len(givens), paper, steps, room))
                    found[told[0]] += 1
        self.assertGreater(min(found.values()), 100)

    def test_all_come_to_rest_and_show_the_same(self):
        for book in ({}, BOOK):
            for givens, paper, a in sample_papers.papers(book, most=60):
                word, after, _ = run(len(givens), paper, 1000, 1000)
                self.assertEqual(shows_by(book, givens, after), a)
                self.assertEqual(word, "rest")
                self.assertIsNone(step(len(givens), after))

    def test_a_thousand_steps(self):
        paper = ("make", both(A, A), U0)
        for _ in range(6):
            # Each one applies the one ahead twice, behind one another.
            twice = ("make", leads(both(A, A), both(A, A)),
                     ("make", both(A, A), ("apply", U0, ("apply", U0, U1))))
            paper = ("apply", twice, paper)
        word, after, done = run(0, paper, 1000, 1000)
        self.assertEqual((word, after), ("rest", ("make", both(A, A), U0)))
        self.assertEqual(run(0, paper, done, 1000), (word, after, done))
        self.assertEqual(run(0, paper, done - 1, 1000)[0::2], ("more", done - 1))

    def test_what_was_told_may_be_run_on(self):
        for givens, paper, _ in sample_papers.papers(most=40):
            whole = run(len(givens), paper, 1000, 1000)
            word, after, done = run(len(givens), paper, 3, 1000)
            again, rest, more = run(len(givens), after, 1000, 1000)
            self.assertEqual((again, rest, done + more), whole)

    def test_at_the_bounds(self):
        for givens, paper, a in sample_papers.deepest():
            word, after, _ = run(len(givens), paper, 1000, 1000)
            self.assertEqual(shows_by({}, givens, after), a)
            self.assertIn(word, ("rest", "large"))


if __name__ == "__main__":
    unittest.main()
