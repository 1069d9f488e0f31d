import copy
import unittest
from random import Random

from onlybuilt.papers import shows, shows_by
from onlybuilt.shifts import deep, moved, put_in, size
from tests import sample_papers, second_papers, second_steps
from tests.sample_papers import BOOK
from tests.samples import A, B, C, D, NEVER, both, either, leads

U0, U1, U2, U3 = [("use", k) for k in range(4)]
EXAMPLE = ("apply", ("make", A, U0), U2)
HUGE = 10 ** 60


class Measures(unittest.TestCase):

    def test_example_of_point_19(self):
        self.assertEqual(size(EXAMPLE), 4)
        self.assertEqual(deep(EXAMPLE), 3)

    def test_each_word(self):
        rows = (
            (U0, 1, 1), (("name", "a"), 1, 1), (("pair", U0, U0), 3, 2), (("first", U0), 2, 2),
            (("second", U0), 2, 2), (("left", U0, A), 2, 2), (("right", A, U0), 2, 2),
            (("case", U0, U0, U0, A), 4, 2), (("make", A, U0), 2, 2), (("apply", U0, U0), 3, 2),
            (("escape", U0, A), 2, 2),
        )
        for paper, many, depth in rows:
            self.assertEqual(size(paper), many)
            self.assertEqual(deep(paper), depth)

    def test_the_greatest_depth_counts_at_each_place(self):
        long = ("first", ("first", U0))
        for paper in (
            ("pair", long, U0), ("pair", U0, long), ("apply", long, U0), ("apply", U0, long),
            ("case", long, U0, U0, A), ("case", U0, long, U0, A), ("case", U0, U0, long, A),
        ):
            self.assertEqual(deep(paper), 4)

    def test_statements_do_not_count(self):
        a = both(leads(A, B), either(A, NEVER))
        self.assertEqual(size(("make", a, ("left", U0, a))), 3)
        self.assertEqual(deep(("make", a, ("left", U0, a))), 3)

    def test_each_paper_as_often_as_it_stands(self):
        twice = ("pair", EXAMPLE, EXAMPLE)
        self.assertEqual(size(twice), 9)
        self.assertEqual(size(("pair", twice, twice)), 19)

    def test_as_told_a_second_time(self):
        for _, paper, _ in [*sample_papers.papers(), *sample_papers.papers(BOOK)]:
            self.assertEqual(size(paper), second_papers.size(paper))
            self.assertEqual(deep(paper), second_papers.deep(paper))

    def test_at_the_bounds(self):
        for _, paper, _ in sample_papers.deepest():
            self.assertEqual(deep(paper), 100)
            self.assertEqual(size(paper), second_papers.size(paper))
        for many in (1, 2, 3, 299, 300, 2000):
            self.assertEqual(size(sample_papers.of_size(many)[0]), many)

    def test_papers_that_are_deeper_than_calls_may_be(self):
        paper = U0
        for _ in range(4000):
            paper = ("pair", paper, U1)
        self.assertEqual(size(paper), 8001)
        self.assertEqual(deep(paper), 4001)
        self.assertEqual(size(moved(paper, 0, 1)), 8001)
        self.assertEqual(deep(put_in(paper, 0, EXAMPLE)), 4003)


class Moved(unittest.TestCase):

    def test_uses_below_at_and_above_the_number(self):
        paper = ("pair", U0, ("pair", U1, ("pair", U2, U3)))
        self.assertEqual(moved(paper, 2, 5), ("pair", U0, ("pair", U1, ("pair", ("use", 7), ("use", 8)))))
        self.assertEqual(moved(U2, 3, 1), U2)
        self.assertEqual(moved(U2, 2, 1), U3)
        self.assertEqual(moved(U2, 0, 1), U3)
        self.assertEqual(moved(paper, 4, 9), paper)

    def test_by_none_and_by_many(self):
        self.assertEqual(moved(EXAMPLE, 0, 0), EXAMPLE)
        self.assertEqual(moved(U1, 1, 1000), ("use", 1001))

    def test_very_large_numbers(self):
        self.assertEqual(moved(("use", HUGE), HUGE, HUGE), ("use", 2 * HUGE))
        self.assertEqual(moved(("use", HUGE - 1), HUGE, HUGE), ("use", HUGE - 1))
        self.assertEqual(moved(("pair", U1, ("use", HUGE)), 2, 1), ("pair", U1, ("use", HUGE + 1)))
        self.assertEqual(moved(U1, 1, HUGE), ("use", HUGE + 1))

    def test_however_deep_and_all_else_stays(self):
        paper = ("case", U1, ("make", both(A, B), U2), ("right", A, ("escape", ("name", "use"), B)), C)
        expected = ("case", ("use", 4), ("make", both(A, B), ("use", 5)),
                    ("right", A, ("escape", ("name", "use"), B)), C)
        self.assertEqual(moved(paper, 1, 3), expected)
        for word in ("first", "second"):
            self.assertEqual(moved((word, U1), 1, 1), (word, U2))
        self.assertEqual(moved(("left", U1, A), 1, 1), ("left", U2, A))
        self.assertEqual(moved(("apply", U0, U1), 1, 1), ("apply", U0, U2))

    def test_numbers_of_what_is_assumed_are_moved_as_all_others(self):
        # One is given; the make assumes the one of number 1, with two given of number 2.
        self.assertEqual(moved(("make", A, ("pair", U0, U1)), 1, 1), ("make", A, ("pair", U0, U2)))
        self.assertEqual(moved(("make", A, U0), 0, 2), ("make", A, U2))

    def test_it_shows_the_same_where_more_are_given_behind(self):
        more = [D, both(C, C), NEVER]
        for book in ({}, BOOK):
            for givens, paper, a in sample_papers.papers(book):
                for many in range(4):
                    told = moved(paper, len(givens), many)
                    self.assertEqual(shows_by(book, [*givens, *more[:many]], told), a)

    def test_as_told_a_second_time(self):
        for givens, paper, _ in [*sample_papers.papers(many=80), *sample_papers.papers(BOOK, 80)]:
            for at in range(len(givens) + 3):
                for by in (0, 1, 7):
                    self.assertEqual(moved(paper, at, by), second_steps.moved(paper, at, by))

    def test_at_the_bounds(self):
        for givens, paper, a in sample_papers.deepest():
            told = moved(paper, len(givens), 2)
            self.assertEqual(told, second_steps.moved(paper, len(givens), 2))
            self.assertEqual(shows([*givens, B, C], told), a)


class PutIn(unittest.TestCase):

    def test_at_a_uses_number(self):
        self.assertEqual(put_in(U0, 0, EXAMPLE), EXAMPLE)
        self.assertEqual(put_in(U1, 1, U0), U0)
        self.assertEqual(put_in(("pair", U1, U1), 1, ("first", U0)), ("pair", ("first", U0), ("first", U0)))

    def test_smaller_numbers_stay_and_greater_ones_become_less_by_one(self):
        paper = ("pair", ("pair", U0, U1), ("pair", U2, U3))
        self.assertEqual(
            put_in(paper, 1, ("name", "a")), ("pair", ("pair", U0, ("name", "a")), ("pair", U1, U2))
        )
        self.assertEqual(put_in(paper, 3, U0), ("pair", ("pair", U0, U1), ("pair", U2, U0)))
        self.assertEqual(put_in(paper, 4, U0), paper)
        self.assertEqual(put_in(U1, 0, EXAMPLE), U0)

    def test_where_no_use_has_the_number(self):
        self.assertEqual(put_in(("name", "a"), 0, U0), ("name", "a"))
        self.assertEqual(put_in(("make", A, U2), 1, EXAMPLE), ("make", A, U1))

    def test_beneath_makes_and_cases_it_is_moved(self):
        # One is given; the paper put in uses it, and assumes the one of number 1.
        other = ("make", B, ("pair", U0, U1))
        moved_once = ("make", B, ("pair", U0, U2))
        moved_twice = ("make", B, ("pair", U0, U3))
        self.assertEqual(put_in(("make", A, U1), 1, other), ("make", A, moved_once))
        self.assertEqual(put_in(("make", A, U2), 1, other), ("make", A, U1))
        self.assertEqual(
            put_in(("make", A, ("make", A, U1)), 1, other), ("make", A, ("make", A, moved_twice))
        )
        self.assertEqual(
            put_in(("case", U1, U1, U1, C), 1, other), ("case", other, moved_once, moved_once, C)
        )
        self.assertEqual(
            put_in(("case", U0, ("make", A, U1), ("pair", U1, U2), C), 1, other),
            ("case", U0, ("make", A, moved_twice), ("pair", moved_once, U1), C),
        )
        # Beside a make, behind one, and in no other paper it is not moved.
        self.assertEqual(
            put_in(("pair", ("make", A, U1), U1), 1, other), ("pair", ("make", A, moved_once), other)
        )
        for word in ("first", "second"):
            self.assertEqual(put_in((word, U1), 1, other), (word, other))
        self.assertEqual(put_in(("left", U1, A), 1, other), ("left", other, A))
        self.assertEqual(put_in(("right", A, U1), 1, other), ("right", A, other))
        self.assertEqual(put_in(("apply", U1, U1), 1, other), ("apply", other, other))
        self.assertEqual(put_in(("escape", U1, A), 1, other), ("escape", other, A))

    def test_very_large_numbers(self):
        paper = ("pair", ("use", HUGE), ("use", HUGE + 1))
        self.assertEqual(put_in(paper, HUGE, U0), ("pair", U0, ("use", HUGE)))
        self.assertEqual(put_in(("make", A, ("use", HUGE)), HUGE, ("use", HUGE)), ("make", A, ("use", HUGE + 1)))
        self.assertEqual(put_in(U0, HUGE, EXAMPLE), U0)
        self.assertEqual(put_in(U0, 0, ("use", HUGE)), ("use", HUGE))

    def test_what_comes_of_it_shows_what_the_one_showed(self):
        for book in ({}, BOOK):
            rows = sample_papers.papers(book, 150)
            for (givens, other, a), seed in zip(rows, range(10 ** 6, 10 ** 6 + 300)):
                paper, b = sample_papers.Grower(seed, book).grown([*givens, a], 12)
                told = put_in(paper, len(givens), other)
                self.assertEqual(shows_by(book, givens, told), b)

    def test_as_told_a_second_time(self):
        pick = Random(12)
        rows = [*sample_papers.papers(many=60), *sample_papers.papers(BOOK, 60)]
        for givens, paper, _ in rows:
            other = pick.choice(rows)[1]
            for at in range(len(givens) + 3):
                self.assertEqual(put_in(paper, at, other), second_steps.put_in(paper, at, other))

    def test_at_the_bounds(self):
        rows = sample_papers.deepest()
        for _, paper, _ in rows:
            for _, other, _ in rows:
                self.assertEqual(put_in(paper, 0, other), second_steps.put_in(paper, 0, other))


class Purity(unittest.TestCase):

    def test_what_was_told_may_be_handed_in_again(self):
        paper = ("pair", U0, ("make", A, U1))
        for _ in range(6):
            paper = put_in(paper, 0, moved(paper, 0, 0))
        self.assertEqual(size(paper), second_papers.size(paper))
        self.assertEqual(deep(paper), second_papers.deep(paper))

    def test_asked_again_the_same_is_told(self):
        for _, paper, _ in sample_papers.papers(many=30):
            before = copy.deepcopy(paper)
            self.assertEqual(put_in(paper, 0, EXAMPLE), put_in(paper, 0, EXAMPLE))
            self.assertEqual(moved(paper, 0, 3), moved(paper, 0, 3))
            self.assertEqual(paper, before)


if __name__ == "__main__":
    unittest.main()
