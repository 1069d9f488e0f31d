import copy
import unittest

from onlybuilt.papers import shows_by, turned_paper
from onlybuilt.statements import turned
from tests import sample_papers, samples, second_papers
from tests.sample_papers import BOOK
from tests.samples import A, B, C, D, NEVER, both, either, leads

U0, U1 = ("use", 0), ("use", 1)
# Books of none, one and several names.
BOOKS = (
    {}, {"a": B}, {"a": NEVER}, {"z": A}, {"a": both(A, B), "b": leads(A, NEVER)},
    {"a": B, "b": A}, {"a": B, "b": C, "c": D, "d": NEVER}, {"b": samples.deep(3)},
)


class TurnedPaper(unittest.TestCase):

    def test_each_word_that_bears_a_statement(self):
        book = {"a": both(B, A)}
        there = both(B, A)
        rows = (
            (("left", U0, A), ("left", U0, there)),
            (("right", A, U0), ("right", there, U0)),
            (("case", U0, U0, U1, A), ("case", U0, U0, U1, there)),
            (("make", A, U0), ("make", there, U0)),
            (("escape", U0, A), ("escape", U0, there)),
        )
        for paper, expected in rows:
            self.assertEqual(turned_paper(paper, book), expected)
            self.assertEqual(
                turned_paper(("pair", paper, ("first", paper)), book),
                ("pair", expected, ("first", expected)),
            )

    def test_words_that_bear_none(self):
        for paper in (U0, ("pair", U0, U1), ("first", U0), ("second", U1), ("apply", U1, U0)):
            self.assertEqual(turned_paper(paper, {"a": B}), paper)

    def test_names_stay_as_they_are(self):
        paper = ("pair", ("name", "a"), ("make", A, ("name", "b")))
        self.assertEqual(
            turned_paper(paper, {"a": B, "b": C}), ("pair", ("name", "a"), ("make", B, ("name", "b")))
        )

    def test_all_at_once(self):
        paper = ("make", A, ("left", U0, leads(B, A)))
        self.assertEqual(
            turned_paper(paper, {"a": B, "b": A}), ("make", B, ("left", U0, leads(A, B)))
        )

    def test_statements_within_statements_and_papers_within_papers(self):
        paper = ("case", ("left", U0, A), ("make", leads(A, A), ("escape", U1, A)),
                 ("right", A, ("make", B, U0)), either(A, C))
        expected = ("case", ("left", U0, D), ("make", leads(D, D), ("escape", U1, D)),
                    ("right", D, ("make", B, U0)), either(D, C))
        self.assertEqual(turned_paper(paper, {"a": D}), expected)

    def test_as_told_a_second_time(self):
        for book in BOOKS:
            for _, paper, _ in [*sample_papers.papers(many=60), *sample_papers.papers(BOOK, 60)]:
                self.assertEqual(turned_paper(paper, book), second_papers.turned_paper(paper, book))

    def test_what_it_shows_is_turned_too(self):
        for book in BOOKS:
            their = {name: turned(a, book) for name, a in BOOK.items()}
            for givens, paper, a in sample_papers.papers(BOOK, 60):
                told = turned_paper(paper, book)
                here = [turned(b, book) for b in givens]
                self.assertEqual(shows_by(their, here, told), turned(a, book))

    def test_at_the_bounds(self):
        for _, paper, _ in sample_papers.deepest():
            for book in BOOKS:
                self.assertEqual(turned_paper(paper, book), second_papers.turned_paper(paper, book))
        paper, _ = sample_papers.of_size(2000)
        book = {"d": samples.deep(5)}
        self.assertEqual(turned_paper(paper, book), second_papers.turned_paper(paper, book))

    def test_what_was_told_may_be_handed_in_again(self):
        for givens, paper, a in sample_papers.papers(many=30):
            once = {"a": both(A, A)}
            told = turned_paper(turned_paper(turned_paper(paper, once), once), once)
            here = [turned(turned(turned(b, once), once), once) for b in givens]
            shown = turned(turned(turned(a, once), once), once)
            self.assertEqual(shows_by({}, here, told), shown)

    def test_papers_that_are_deeper_than_calls_may_be(self):
        paper = U0
        for _ in range(3000):
            paper = ("left", ("first", paper), A)
        told = turned_paper(paper, {"a": B})
        for _ in range(3000):
            word, below, a = told
            self.assertEqual((word, below[0], a), ("left", "first", B))
            told = below[1]
        self.assertEqual(told, U0)

    def test_what_is_handed_in_stays_as_it_was(self):
        for book in BOOKS:
            before = copy.deepcopy(book)
            paper = ("make", A, ("left", U0, both(A, B)))
            first = turned_paper(paper, book)
            self.assertEqual(book, before)
            self.assertEqual(turned_paper(paper, book), first)
        book = {"a": B}
        told = turned_paper(("make", A, U0), book)
        book["a"] = C
        self.assertEqual(told, ("make", B, U0))


if __name__ == "__main__":
    unittest.main()
