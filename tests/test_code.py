import unittest

from onlybuilt.code import code
from onlybuilt.papers import shows
from onlybuilt.seek import seek
from tests import sample_papers, sample_rooms, second_machine
from tests.samples import A, B, C, NEVER, both, either, leads

U0, U1, U2 = [("use", k) for k in range(3)]
ONE = ("make", A, U0)
BACK = ("back",)


def closed(many=300, most=40):
    """Papers that show something from no givens, and what that is."""
    return [sample_papers.Grower(seed, {}).grown([], 1 + seed % most) for seed in range(many)]


class Code(unittest.TestCase):

    def test_example_of_point_41(self):
        rows = code(("apply", ("make", A, ("use", 0)), ("make", B, ("use", 0))))
        self.assertEqual(rows, [
            ("make", 4), ("make", 6), ("apply",), ("back",), ("take", 0), ("back",), ("take", 0), ("back",),
        ])

    def test_each_word(self):
        rows = (
            (ONE, [("make", 2), BACK, ("take", 0), BACK]),
            (("pair", ONE, ONE), [("make", 4), ("make", 6), ("pair",), BACK, ("take", 0), BACK, ("take", 0), BACK]),
            (("left", ONE, B), [("make", 3), ("left",), BACK, ("take", 0), BACK]),
            (("right", B, ONE), [("make", 3), ("right",), BACK, ("take", 0), BACK]),
            (("make", both(A, B), ("first", U0)), [("make", 2), BACK, ("take", 0), ("first",), BACK]),
            (("make", both(A, B), ("second", U0)), [("make", 2), BACK, ("take", 0), ("second",), BACK]),
            (("make", NEVER, ("escape", U0, A)), [("make", 2), BACK, ("take", 0), ("escape",), BACK]),
            (("make", leads(A, A), ("make", A, ("apply", U0, U1))),
             [("make", 2), BACK, ("make", 4), BACK, ("take", 0), ("take", 1), ("apply",), BACK]),
            (("make", either(A, A), ("case", U0, U1, U1, A)),
             [("make", 2), BACK, ("take", 0), ("case", 5, 7), BACK, ("take", 1), BACK, ("take", 1), BACK]),
        )
        for paper, expected in rows:
            with self.subTest(paper=paper):
                self.assertEqual(code(paper), expected)

    def test_the_stretches_apart_in_the_order_in_which_their_rows_are_met(self):
        # First those told of in the whole paper's stretch, then those told of in these.
        inner = ("make", B, ("make", C, U0))
        self.assertEqual(code(("pair", inner, inner)), [
            ("make", 4), ("make", 6), ("pair",), BACK, ("make", 8), BACK, ("make", 10), BACK,
            ("take", 0), BACK, ("take", 0), BACK,
        ])

    def test_the_second_paper_of_a_case_ahead_of_the_third(self):
        paper = ("case", ("left", ONE, B), ("make", C, U0), ("make", C, ("apply", U0, U1)), leads(C, C))
        self.assertEqual(code(paper), [
            ("make", 4), ("left",), ("case", 6, 8), BACK, ("take", 0), BACK, ("make", 10), BACK, ("make", 12), BACK,
            ("take", 0), BACK, ("take", 0), ("take", 1), ("apply",), BACK,
        ])

    def test_a_row_of_the_chief_paper_of_a_case_is_met_ahead_of_the_case(self):
        case = ("case", ("left", ONE, B), ONE, ONE, A)
        self.assertEqual(code(("pair", case, ("make", B, U0)))[:7], [
            ("make", 6), ("left",), ("case", 8, 10), ("make", 12), ("pair",), BACK, ("take", 0),
        ])

    def test_as_told_a_second_time(self):
        for paper, _ in closed():
            self.assertEqual(code(paper), second_machine.code(paper))
        for givens, goal in sample_rooms.told(sample_rooms.SHOWN):
            word, paper = seek([], self.joined(givens, goal))
            self.assertEqual(code(paper), second_machine.code(paper))

    def joined(self, givens, goal):
        for a in givens[::-1]:
            goal = leads(a, goal)
        return goal if sample_rooms.fits([], goal) else leads(A, A)

    def test_each_number_is_that_of_a_first_row(self):
        for paper, _ in closed(100):
            rows = code(paper)
            firsts = [0] + [k + 1 for k, row in enumerate(rows[:-1]) if row == BACK]
            told = [number for row in rows if row[0] in ("make", "case") for number in row[1:]]
            self.assertEqual([0, *told], firsts)
            self.assertEqual(rows[-1], BACK)

    def test_papers_of_a_depth_of_100(self):
        for givens, paper, _ in sample_papers.deepest():
            for a in givens[::-1]:
                paper = ("make", a, paper)
            self.assertEqual(code(paper), second_machine.code(paper))

    def test_papers_that_are_deeper_than_calls_may_be(self):
        paper = ONE
        for _ in range(3000):
            paper = ("left", paper, A)
        self.assertEqual(code(paper), [("make", 3002), *[("left",)] * 3000, BACK, ("take", 0), BACK])
        paper = U0
        for _ in range(3000):
            paper = ("make", A, paper)
        rows = code(paper)
        self.assertEqual(rows[:4], [("make", 2), BACK, ("make", 4), BACK])
        self.assertEqual(rows[-4:], [("make", 6000), BACK, ("take", 0), BACK])

    def test_asked_again_the_same_is_told_in_a_new_list(self):
        for paper, a in closed(30):
            expected = code(paper)
            code(paper).clear()
            self.assertEqual(code(paper), expected)
            self.assertEqual(shows([], paper), a)

    def test_samples_have_every_word(self):
        words = {row[0] for paper, _ in closed() for row in code(paper)}
        self.assertEqual(words | {"escape"}, {
            "take", "pair", "first", "second", "left", "right", "make", "apply", "case", "escape", "back",
        })


if __name__ == "__main__":
    unittest.main()
