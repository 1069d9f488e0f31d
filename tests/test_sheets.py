import copy
import unittest

from onlybuilt.doubles import settled
from onlybuilt.hall import Hall
from onlybuilt.lines import read_sheet
from onlybuilt.middles import middle
from onlybuilt.papers import shows
from onlybuilt.reader import read
from onlybuilt.seek import seek
from onlybuilt.sheets import sheet
from onlybuilt.shifts import moved
from tests import sample_papers, sample_rooms, samples, second_sheets
from tests.samples import A, B, C, D, both, either, leads

U0, U1, U2 = [("use", k) for k in range(3)]


def statements(*texts):
    return [read(text) for text in texts]


class Sheet(unittest.TestCase):

    def test_example_of_point_48(self):
        self.assertEqual(sheet([B], ("make", A, ("pair", U0, U1))), [
            "1. b by given", "| 2. a by assumed", "| 3. b and a by pair 1 2", "4. a then b and a by make 2",
        ])

    def test_each_word(self):
        rows = (
            (["a", "b"], ("pair", U1, U0), ["3. b and a by pair 2 1"]),
            (["a and b"], ("first", U0), ["2. a by first 1"]),
            (["a and b"], ("second", U0), ["2. b by second 1"]),
            (["a"], ("left", U0, B), ["2. a or b by left 1"]),
            (["a"], ("right", B, U0), ["2. b or a by right 1"]),
            (["a then b", "a"], ("apply", U0, U1), ["3. b by apply 1 2"]),
            (["never"], ("escape", U0, both(A, B)), ["2. a and b by escape 1"]),
            ([], ("make", A, U0), ["| 1. a by assumed", "2. a then a by make 1"]),
            (["a or a"], ("case", U0, U1, U1, A),
             ["| 2. a by assumed", "| 3. a by assumed", "4. a by case 1 2 3"]),
        )
        for texts, paper, expected in rows:
            with self.subTest(paper=paper):
                given = [f"{k + 1}. {text} by given" for k, text in enumerate(texts)]
                self.assertEqual(sheet(statements(*texts), paper), given + expected)

    def test_the_rows_of_a_case(self):
        givens = statements("a and (b or c)", "c then never")
        paper = ("case", ("second", U0), ("pair", U2, ("first", U0)), ("escape", ("apply", U1, U2), both(B, A)),
                 both(B, A))
        self.assertEqual(sheet(givens, paper), [
            "1. a and (b or c) by given", "2. c then never by given", "3. b or c by second 1",
            "| 4. b by assumed", "| 5. a by first 1", "| 6. b and a by pair 4 5",
            "| 7. c by assumed", "| 8. never by apply 2 7", "| 9. b and a by escape 8",
            "10. b and a by case 3 4 7",
        ])

    def test_boxes_in_boxes(self):
        paper = ("make", A, ("make", B, ("make", C, ("pair", U1, U0))))
        self.assertEqual(sheet([], paper), [
            "| 1. a by assumed", "| | 2. b by assumed", "| | | 3. c by assumed", "| | | 4. b and a by pair 2 1",
            "| | 5. c then b and a by make 3", "| 6. b then c then b and a by make 2",
            "7. a then b then c then b and a by make 1",
        ])

    def test_a_use_has_a_row_where_it_is_the_whole_paper(self):
        self.assertEqual(sheet([A], U0), ["1. a by given", "2. a by again 1"])
        self.assertEqual(
            sheet([A, B, C], U1), ["1. a by given", "2. b by given", "3. c by given", "4. b by again 2"]
        )

    def test_a_use_has_a_row_where_it_is_the_part_of_a_box_and_not_what_that_assumes(self):
        self.assertEqual(sheet([B], ("make", A, U0)), [
            "1. b by given", "| 2. a by assumed", "| 3. b by again 1", "4. a then b by make 2",
        ])
        self.assertEqual(sheet([B], ("make", A, U1)), ["1. b by given", "| 2. a by assumed", "3. a then a by make 2"])
        self.assertEqual(sheet([], ("make", A, ("make", B, U0))), [
            "| 1. a by assumed", "| | 2. b by assumed", "| | 3. a by again 1", "| 4. b then a by make 2",
            "5. a then b then a by make 1",
        ])
        self.assertEqual(sheet(statements("b or a", "b"), ("case", U0, U1, U1, B))[2:], [
            "| 3. b by assumed", "| 4. b by again 2", "| 5. a by assumed", "| 6. b by again 2", "7. b by case 1 3 5",
        ])
        # The given of the same statement is another one than what is assumed.
        self.assertEqual(sheet([A], ("make", A, U0))[2], "| 3. a by again 1")

    def test_a_paper_has_its_rows_as_often_as_it_stands(self):
        half = ("first", U0)
        self.assertEqual(sheet([both(A, B)], ("pair", half, half)), [
            "1. a and b by given", "2. a by first 1", "3. a by first 1", "4. a and a by pair 2 3",
        ])

    def test_statements_as_texts(self):
        by = samples.letter("by")
        self.assertEqual(sheet([by], ("left", U0, leads(by, by)))[1], "2. by or (by then by) by left 1")

    def test_numbers_of_two_and_three_figures(self):
        paper = U0
        for _ in range(120):
            paper = ("left", paper, B)
        rows = sheet([A], paper)
        self.assertTrue(rows[10].startswith("11. a or b") and rows[10].endswith(" by left 10"))
        self.assertTrue(rows[120].startswith("121. a or b") and rows[120].endswith(" by left 120"))

    def test_as_told_a_second_time(self):
        words = set()
        for givens, paper, _ in [*sample_papers.papers(many=800), *sample_papers.papers(many=60, most=200)]:
            rows = sheet(givens, paper)
            self.assertEqual(rows, second_sheets.sheet(givens, paper))
            words |= {row.rpartition(" by ")[2].split()[0] for row in rows}
        self.assertEqual(words, set(second_sheets.COUNTS))

    def test_from_no_givens(self):
        for seed in range(200):
            paper, _ = sample_papers.Grower(seed, {}).grown([], 1 + seed % 30)
            self.assertEqual(sheet([], paper), second_sheets.sheet([], paper))


class ReadBack(unittest.TestCase):

    def is_read_back(self, givens, paper):
        rows = sheet(givens, paper)
        self.assertEqual(read_sheet(rows), (givens, shows(givens, paper), paper))
        return rows

    def test_scattered_papers(self):
        for givens, paper, _ in [*sample_papers.papers(many=1000), *sample_papers.papers(many=60, most=200)]:
            self.is_read_back(givens, paper)
        for seed in range(300):
            self.is_read_back([], sample_papers.Grower(seed, {}).grown([], 1 + seed % 40)[0])

    def test_uses_alone(self):
        for givens in ([A], [A, B, A], [A] * 60):
            for k in range(len(givens)):
                self.is_read_back(givens, ("use", k))

    def test_papers_of_a_depth_of_100(self):
        for givens, paper, _ in sample_papers.deepest():
            self.is_read_back(givens, paper)

    def test_sizes_up_to_2000(self):
        for many in (1, 2, 3, 50, 1999, 2000):
            self.is_read_back([samples.E], sample_papers.of_size(many)[0])

    def test_papers_that_were_sought(self):
        for givens, goal in sample_rooms.scattered(600, 60):
            word, paper = seek(givens, goal)
            if word == "paper":
                self.is_read_back(givens, paper)

    def test_other_papers_that_were_told(self):
        for ones, others, goal in (([both(A, B)], [leads(B, C)], C), ([either(A, B)], [leads(A, C), leads(B, C)], C)):
            _, m, to, back = middle(ones, others, goal)
            self.is_read_back(ones, to)
            self.is_read_back([*others, m], back)
        for a in (A, both(A, leads(B, either(A, C))), read("a then b then c or d and a")):
            self.is_read_back([], settled(a))
        made = Hall()
        made.claim("a", leads(A, A))
        made.claim("b", leads(B, both(leads(A, A), leads(A, A))))
        made.sought("a", [])
        made.show("b", ("make", B, ("pair", ("name", "a"), ("name", "a"))))
        self.is_read_back([], made.full("b"))
        self.is_read_back([D, D, D], moved(made.full("b"), 0, 3))

    def test_papers_deeper_than_calls_may_be_are_written(self):
        paper = U0
        for _ in range(2500):
            paper = ("apply", U1, paper)
        rows = sheet([A, leads(A, A)], paper)
        self.assertEqual(len(rows), 2502)
        self.assertEqual(rows[-1], "2502. a by apply 2 2501")


class Purity(unittest.TestCase):

    def test_givens_stay_and_what_is_told_is_new(self):
        for givens, paper, _ in sample_papers.papers(many=60):
            before = copy.deepcopy(givens)
            expected = list(sheet(givens, paper))
            rows = sheet(givens, paper)
            rows.append("zz")
            rows[0] = ""
            self.assertEqual(givens, before)
            self.assertEqual(sheet(givens, paper), expected)


if __name__ == "__main__":
    unittest.main()
