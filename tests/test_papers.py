import copy
import unittest
from random import Random

from onlybuilt.errors import NoGiven, NotThat, OnlyError, Unnamed
from onlybuilt.papers import shows, shows_by
from tests import sample_papers, samples, second_papers
from tests.refused import refused
from tests.sample_papers import BOOK
from tests.samples import A, B, C, D, NEVER, both, either, leads

U0, U1, U2, U3 = [("use", k) for k in range(4)]


class Shows(unittest.TestCase):

    def test_examples_of_point_16(self):
        paper = ("make", A, ("make", B, U0))
        self.assertEqual(shows([], paper), leads(A, leads(B, A)))
        self.assertEqual(shows([C, D], ("make", A, U2)), leads(A, A))

    def test_use(self):
        givens = [A, both(A, B), A, NEVER]
        for k, a in enumerate(givens):
            self.assertEqual(shows(givens, ("use", k)), a)

    def test_pair(self):
        self.assertEqual(shows([A, B], ("pair", U0, U1)), both(A, B))
        self.assertEqual(shows([A, B], ("pair", U1, U0)), both(B, A))
        self.assertEqual(shows([A], ("pair", U0, U0)), both(A, A))

    def test_first_and_second(self):
        self.assertEqual(shows([both(A, B)], ("first", U0)), A)
        self.assertEqual(shows([both(A, B)], ("second", U0)), B)
        nested = both(both(A, B), both(C, D))
        self.assertEqual(shows([nested], ("second", ("first", U0))), B)
        self.assertEqual(shows([nested], ("first", ("second", U0))), C)

    def test_left_and_right(self):
        self.assertEqual(shows([A], ("left", U0, B)), either(A, B))
        self.assertEqual(shows([A], ("right", B, U0)), either(B, A))

    def test_make(self):
        self.assertEqual(shows([], ("make", A, U0)), leads(A, A))
        self.assertEqual(shows([B], ("make", A, U0)), leads(A, B))
        self.assertEqual(shows([B], ("make", A, ("make", C, U1))), leads(A, leads(C, A)))
        self.assertEqual(shows([B], ("make", A, ("make", C, U2))), leads(A, leads(C, C)))

    def test_apply(self):
        self.assertEqual(shows([leads(A, B), A], ("apply", U0, U1)), B)
        self.assertEqual(shows([A], ("apply", ("make", A, ("pair", U0, U1)), U0)), both(A, A))

    def test_case(self):
        swapped = ("case", U0, ("right", B, U1), ("left", U1, A), either(B, A))
        self.assertEqual(shows([either(A, B)], swapped), either(B, A))
        self.assertEqual(shows([either(A, A)], ("case", U0, U1, U1, A)), A)
        self.assertEqual(shows([either(A, B), C], ("case", U0, U1, U1, C)), C)

    def test_escape(self):
        self.assertEqual(shows([NEVER], ("escape", U0, both(A, B))), both(A, B))
        self.assertEqual(shows([NEVER], ("escape", U0, NEVER)), NEVER)

    def test_each_part_assumes_behind_all_that_is_given_there(self):
        # Each number is free again behind the part in which it was assumed.
        self.assertEqual(
            shows([C], ("pair", ("make", A, U1), ("make", B, U1))), both(leads(A, A), leads(B, B))
        )
        self.assertEqual(
            shows([either(A, B)], ("case", U0, ("make", C, U2), ("make", C, U2), leads(C, C))),
            leads(C, C),
        )
        within = ("case", U0, ("make", D, ("left", U1, B)), ("make", D, ("right", A, U1)),
                  leads(D, either(A, B)))
        self.assertEqual(shows([either(A, B)], within), leads(D, either(A, B)))
        applied = ("apply", ("make", A, ("make", B, ("pair", U1, U2))), U0)
        self.assertEqual(shows([A], applied), leads(B, both(A, B)))

    def test_what_is_assumed_is_given_in_its_own_part_alone(self):
        papers = (
            (("pair", ("make", A, U0), U0), (2,)),
            (("pair", U0, ("make", A, U0)), (1,)),
            (("apply", ("make", A, U0), U0), (2,)),
        )
        for paper, road in papers:
            self.assertEqual(refused(self, "NoGiven", shows, [], paper).road, road)
        paper = ("case", U1, U0, U0, A)
        self.assertEqual(refused(self, "NoGiven", shows, [either(A, A)], paper).road, (1,))
        paper = ("case", U0, U2, U1, A)
        self.assertEqual(refused(self, "NoGiven", shows, [either(A, A)], paper).road, (2,))
        paper = ("case", U0, U1, U2, A)
        self.assertEqual(refused(self, "NoGiven", shows, [either(A, A)], paper).road, (3,))

    def test_name(self):
        for name, a in BOOK.items():
            self.assertEqual(shows_by(BOOK, [], ("name", name)), a)
        self.assertEqual(shows_by({"a": leads(A, B)}, [A], ("apply", ("name", "a"), U0)), B)
        self.assertEqual(
            shows_by({"w": C}, [A], ("make", B, ("pair", ("name", "w"), U1))), leads(B, both(C, B))
        )

    def test_an_empty_book_shows_what_no_book_does(self):
        for givens, paper, a in sample_papers.papers():
            self.assertEqual(shows_by({}, givens, paper), a)
            self.assertEqual(shows_by(BOOK, givens, paper), a)

    def test_papers_of_every_word_as_told_a_second_time(self):
        for book in ({}, BOOK):
            for givens, paper, a in sample_papers.papers(book):
                self.assertEqual(shows_by(book, givens, paper), a)
                self.assertEqual(second_papers.shows(book, givens, paper), a)

    def test_a_depth_of_100(self):
        for givens, paper, a in sample_papers.deepest():
            self.assertEqual(second_papers.deep(paper), 100)
            self.assertEqual(shows(givens, paper), a)

    def test_a_size_of_2000(self):
        paper, a = sample_papers.of_size(2000)
        self.assertEqual(second_papers.size(paper), 2000)
        self.assertEqual(shows([samples.E], paper), a)

    def test_statements_at_the_bounds(self):
        for a in samples.deepest():
            for b in samples.deepest()[::5]:
                paper = ("case", ("left", ("make", a, U1), b), ("right", b, U1), ("left", U1, leads(a, a)),
                         either(b, leads(a, a)))
                self.assertEqual(shows([NEVER], paper), either(b, leads(a, a)))

    def test_sixty_givens(self):
        givens = [leads(samples.letter("a" * (1 + k % 8)), B) for k in range(60)]
        self.assertEqual(shows(givens, ("use", 59)), givens[59])
        self.assertEqual(shows(givens, ("make", A, ("use", 60))), leads(A, A))
        self.assertEqual(refused(self, "NoGiven", shows, givens, ("use", 60)).road, ())

    def test_papers_that_are_deeper_than_calls_may_be(self):
        paper, escaped = U0, U1
        for _ in range(3000):
            paper = ("first", ("pair", paper, U1))
            escaped = ("escape", escaped, NEVER)
        self.assertEqual(shows([A, NEVER], paper), A)
        self.assertEqual(shows([A, NEVER], escaped), NEVER)
        road = refused(self, "NoGiven", shows, [], paper).road
        self.assertEqual(road, (1,) * 6000)


class Refused(unittest.TestCase):

    def is_refused(self, name, road, givens, paper, book=None):
        with self.subTest(paper=paper, givens=givens):
            if book is None:
                refusal = refused(self, name, shows, givens, paper)
            else:
                refusal = refused(self, name, shows_by, book, givens, paper)
            self.assertEqual(refusal.road, road)
            self.assertIs(type(refusal.road), tuple)

    def test_numbers_of_no_given(self):
        for k in (-1, -2, -3, 2, 3, 10 ** 40, -10 ** 40):
            self.is_refused("NoGiven", (), [A, B], ("use", k))
            self.is_refused("NoGiven", (2,), [A, B], ("pair", U0, ("use", k)))
        self.is_refused("NoGiven", (), [], U0)
        self.is_refused("NoGiven", (2,), [], ("make", A, U1))
        self.is_refused("NoGiven", (2,), [], ("make", A, ("use", -1)))

    def test_texts_that_the_book_has_not(self):
        self.is_refused("Unnamed", (), [A], ("name", "a"))
        self.is_refused("Unnamed", (), [A], ("name", ""))
        self.is_refused("Unnamed", (), [A], ("name", "a"), {})
        self.is_refused("Unnamed", (), [A], ("name", "name"), BOOK)
        self.is_refused("Unnamed", (2, 1), [], ("make", A, ("left", ("name", "b"), A)), {"a": A})

    def test_each_word_that_asks_for_something(self):
        others = (A, NEVER, both(A, B), either(A, B), leads(A, B))
        for a in others:
            if a[0] != "and":
                self.is_refused("NotThat", (), [a], ("first", U0))
                self.is_refused("NotThat", (), [a], ("second", U0))
            if a[0] != "or":
                self.is_refused("NotThat", (), [a, A], ("case", U0, U1, U1, A))
            if a[0] != "then":
                self.is_refused("NotThat", (), [a, A], ("apply", U0, U1))
            if a[0] != "never":
                self.is_refused("NotThat", (), [a], ("escape", U0, A))

    def test_an_apply_to_another_statement(self):
        self.is_refused("NotThat", (), [leads(A, B), B], ("apply", U0, U1))
        self.is_refused("NotThat", (), [leads(A, B), A], ("apply", U1, U0))
        self.is_refused("NotThat", (), [leads(both(A, B), C), both(B, A)], ("apply", U0, U1))

    def test_a_case_whose_parts_show_another_statement(self):
        givens = [either(A, B), C, D]
        for paper in (
            ("case", U0, U3, U3, A), ("case", U0, U3, U3, B), ("case", U0, U1, U2, C),
            ("case", U0, U2, U1, C), ("case", U0, U1, U1, D), ("case", U0, U1, U1, either(A, B)),
        ):
            self.is_refused("NotThat", (), givens, paper)

    def test_roads_of_each_place(self):
        wrong = ("use", 9)
        rows = (
            (("pair", wrong, U0), (1,)), (("pair", U0, wrong), (2,)), (("first", wrong), (1,)),
            (("second", wrong), (1,)), (("left", wrong, A), (1,)), (("right", A, wrong), (2,)),
            (("case", wrong, U0, U0, A), (1,)), (("case", U0, wrong, U0, A), (2,)),
            (("case", U0, U1, wrong, A), (3,)), (("make", A, wrong), (2,)),
            (("apply", wrong, U0), (1,)), (("apply", U0, wrong), (2,)), (("escape", wrong, A), (1,)),
        )
        for paper, road in rows:
            self.is_refused("NoGiven", road, [either(A, B)], paper)
            self.is_refused("NoGiven", (2, 2, *road), [either(A, B)], ("right", C, ("make", D, paper)))

    def test_from_the_left_each_part_wholly_ahead_of_the_next(self):
        bad_name, bad_use, bad_first = ("name", "q"), ("use", 7), ("first", U0)
        for word in ("pair", "apply"):
            self.is_refused("Unnamed", (1,), [A], (word, bad_name, bad_use))
            self.is_refused("NoGiven", (1,), [A], (word, bad_use, bad_name))
            self.is_refused("NotThat", (1,), [A], (word, bad_first, bad_name))
            self.is_refused("NoGiven", (1, 2, 2), [A], (word, ("pair", U0, ("make", A, bad_use)), bad_name))
        # The parts are looked at ahead of the paper itself.
        self.is_refused("NoGiven", (2,), [A], ("apply", U0, bad_use))
        self.is_refused("Unnamed", (1,), [A], ("first", bad_name))
        self.is_refused("NotThat", (1,), [A], ("escape", bad_first, A))

    def test_of_a_case_the_or_is_looked_at_right_behind_its_first_paper(self):
        bad_name, bad_use = ("name", "q"), ("use", 7)
        self.is_refused("Unnamed", (1,), [A], ("case", bad_name, bad_use, bad_use, A))
        self.is_refused("NotThat", (), [A], ("case", U0, bad_use, bad_name, A))
        self.is_refused("NoGiven", (2,), [either(A, B)], ("case", U0, bad_use, bad_name, A))
        self.is_refused("Unnamed", (3,), [either(A, B)], ("case", U0, U0, bad_name, A))
        # That q does not show c is looked at behind r.
        self.is_refused("NoGiven", (3,), [either(A, B)], ("case", U0, U0, bad_use, A))
        self.is_refused("NotThat", (), [either(A, B)], ("case", U0, U0, U0, A))
        self.is_refused("NotThat", (2,), [either(A, B)], ("case", U0, ("case", U1, bad_use, U0, A), U0, A))

    def test_spoiled_papers_as_told_a_second_time(self):
        found = {}
        for book in ({}, BOOK):
            pick = Random(9)
            for givens, paper, _ in sample_papers.papers(book):
                for _ in range(4):
                    wrong = sample_papers.spoiled(pick, paper)
                    name = self.told_as_a_second_time(book, givens, wrong)
                    found[name] = found.get(name, 0) + 1
        for name in ("NoGiven", "Unnamed", "NotThat", "shown"):
            self.assertGreater(found[name], 50)

    def told_as_a_second_time(self, book, givens, paper):
        """The name of the refusal, or "shown"."""
        try:
            expected = second_papers.shows(book, givens, paper)
        except second_papers.Refused as told:
            name, road = told.args
            self.is_refused(name, road, givens, paper, book)
            return name
        self.assertEqual(shows_by(book, givens, paper), expected)
        return "shown"

    def test_deep_roads(self):
        for givens, paper, _ in sample_papers.deepest():
            for road in second_papers.roads(paper):
                if second_papers.at_road(paper, road)[0] == "use":
                    wrong = second_papers.with_at(paper, road, ("use", 500))
                    self.is_refused("NoGiven", road, givens, wrong)

    def test_each_is_taken_by_its_name(self):
        for refusal, paper in ((NoGiven, U0), (Unnamed, ("name", "a")), (NotThat, ("first", ("make", A, U0)))):
            with self.assertRaises(refusal):
                shows([], paper)
            with self.assertRaises(OnlyError):
                shows_by({}, [], paper)


class Purity(unittest.TestCase):

    def test_what_is_handed_in_stays_as_it_was(self):
        pick = Random(10)
        for givens, paper, a in sample_papers.papers(BOOK, 150):
            book = dict(BOOK)
            before = copy.deepcopy((book, givens))
            shows_by(book, givens, paper)
            self.assertEqual((book, givens), before)
            for wrong in (sample_papers.spoiled(pick, paper), ("make", A, ("pair", U0, ("use", 99)))):
                try:
                    shows_by(book, givens, wrong)
                    shows(givens, wrong)
                except OnlyError:
                    pass
                self.assertEqual((book, givens), before)
                # What was refused has left nothing behind.
                self.assertEqual(shows_by(book, givens, paper), a)

    def test_what_is_done_behind_the_call_changes_nothing(self):
        givens = [A, leads(A, B)]
        shown = shows(givens, ("apply", U1, U0))
        givens.clear()
        self.assertEqual(shown, B)
        with self.assertRaises(NoGiven):
            shows(givens, U0)

    def test_a_statement_that_was_shown_may_be_handed_in_again(self):
        a = A
        for _ in range(5):
            paper = ("make", a, ("make", NEVER, ("pair", U1, U2)))
            a = shows([C], paper)
            self.assertEqual(shows([a, NEVER], ("apply", ("make", a, U0), U0)), a)

    def test_statements_that_are_deeper_than_calls_may_be_are_compared(self):
        def chain(last):
            a = last
            for _ in range(3000):
                a = leads(B, a)
            return a

        # Each one is made anew, so that no two of them are one object.
        self.assertEqual(shows([chain(A)], ("apply", ("make", chain(A), ("make", C, U2)), U0))[1], C)
        with self.assertRaises(NotThat):
            shows([chain(A)], ("apply", ("make", chain(D), U1), U0))
        case = ("case", U0, U1, U1, chain(A))
        self.assertEqual(shows([either(chain(A), chain(A))], case)[1], B)
        with self.assertRaises(NotThat):
            shows([either(chain(A), chain(D))], case)


if __name__ == "__main__":
    unittest.main()
