import copy
import unittest
from random import Random

from onlybuilt.lines import read_sheet
from onlybuilt.papers import shows
from onlybuilt.reader import read
from onlybuilt.sheets import sheet
from onlybuilt.shifts import deep, moved, put_in, size
from onlybuilt.words import told
from tests import sample_papers, sample_sheets, samples, second_sheets
from tests.refused import refused
from tests.samples import A, B, C, D, both, either, leads

U0, U1, U2, U3 = [("use", k) for k in range(4)]
BY = samples.letter("by")


class Read(unittest.TestCase):

    def is_read(self, rows, givens, a, paper):
        givens = [read(text) for text in givens]
        self.assertEqual(read_sheet(rows), (givens, read(a), paper))
        self.assertEqual(shows(givens, paper), read(a))

    def test_example_of_point_48(self):
        rows = ["1. b by given", "| 2. a by assumed", "| 3. b and a by pair 1 2", "4. a then b and a by make 2"]
        self.is_read(rows, ["b"], "a then b and a", ("make", A, ("pair", U0, U1)))

    def test_each_word(self):
        rows = (
            (["a", "b"], ["3. b and a by pair 2 1"], ("pair", U1, U0)),
            (["a and b"], ["2. a by first 1"], ("first", U0)),
            (["a and b"], ["2. b by second 1"], ("second", U0)),
            (["a"], ["2. a or b by left 1"], ("left", U0, B)),
            (["a"], ["2. b or a by right 1"], ("right", B, U0)),
            (["a then b", "a"], ["3. b by apply 1 2"], ("apply", U0, U1)),
            (["never"], ["2. a and b by escape 1"], ("escape", U0, both(A, B))),
            ([], ["| 1. a by assumed", "2. a then a by make 1"], ("make", A, U0)),
            (["a or a"], ["| 2. a by assumed", "| 3. a by assumed", "4. a by case 1 2 3"], ("case", U0, U1, U1, A)),
            (["a"], ["2. a by again 1"], U0),
        )
        for givens, behind, paper in rows:
            with self.subTest(paper=paper):
                given = [f"{k + 1}. {text} by given" for k, text in enumerate(givens)]
                a = behind[-1].partition(". ")[2].rpartition(" by ")[0]
                self.is_read(given + behind, givens, a, paper)

    def test_rows_used_in_any_order_and_more_than_once(self):
        rows = [
            "1. a and b by given", "2. b by second 1", "3. a by first 1", "4. b and a by pair 2 3",
            "5. b and a and (b and a) by pair 4 4", "6. b and a by first 5", "7. a by second 4",
            "8. b and a and a by pair 6 7",
        ]
        four = ("pair", ("second", U0), ("first", U0))
        self.is_read(rows, ["a and b"], "b and a and a",
                     ("pair", ("first", ("pair", four, four)), ("second", four)))

    def test_rows_that_are_not_used(self):
        rows = ["1. a by given", "2. a or b by left 1", "| 3. c by assumed", "4. c then c by make 3",
                "| 5. b by assumed", "| | 6. c by assumed", "7. b or a by right 1"]
        self.is_read(rows, ["a"], "b or a", ("right", B, U0))

    def test_rows_used_in_deeper_boxes_are_moved(self):
        rows = [
            "1. a by given", "| 2. b by assumed", "3. b then b by make 2", "| 4. c by assumed",
            "| | 5. d by assumed", "| | 6. (b then b) and a by pair 3 1", "| 7. d then (b then b) and a by make 5",
            "8. c then d then (b then b) and a by make 4",
        ]
        self.is_read(rows, ["a"], "c then d then (b then b) and a",
                     ("make", C, ("make", D, ("pair", ("make", B, U3), U0))))

    def test_rows_of_a_box_used_in_a_box_within_it(self):
        rows = [
            "1. a by given", "| 2. b by assumed", "| 3. a and b by pair 1 2", "| | 4. c by assumed",
            "| 5. c then c by make 4", "| | 6. d by assumed", "| | 7. (c then c) and (a and b) by pair 5 3",
            "| 8. d then (c then c) and (a and b) by make 6", "9. b then d then (c then c) and (a and b) by make 2",
        ]
        self.is_read(rows, ["a"], "b then d then (c then c) and (a and b)",
                     ("make", B, ("make", D, ("pair", ("make", C, U3), ("pair", U0, U1)))))

    def test_one_box_made_twice_and_in_another_box(self):
        rows = [
            "| 1. a by assumed", "2. a then a by make 1", "3. a then a by make 1", "| 4. b by assumed",
            "| 5. (a then a) and (a then a) by pair 2 3", "6. b then (a then a) and (a then a) by make 4",
        ]
        one = ("make", A, U1)
        self.is_read(rows, [], "b then (a then a) and (a then a)", ("make", B, ("pair", one, one)))

    def test_one_box_for_both_sides_of_a_case(self):
        rows = ["1. a or a by given", "| 2. a by assumed", "| 3. a or b by left 2", "4. a or b by case 1 2 2"]
        side = ("left", U1, B)
        self.is_read(rows, ["a or a"], "a or b", ("case", U0, side, side, either(A, B)))

    def test_a_box_that_is_made_and_a_side_of_a_case(self):
        rows = [
            "1. a or b by given", "| 2. b by assumed", "| 3. b or a by left 2", "4. b then b or a by make 2",
            "| 5. a by assumed", "| 6. b or a by right 5", "7. b or a by case 1 5 2",
            "8. (b then b or a) and (b or a) by pair 4 7",
        ]
        left, right = ("left", U1, A), ("right", B, U1)
        self.is_read(rows, ["a or b"], "(b then b or a) and (b or a)",
                     ("pair", ("make", B, left), ("case", U0, right, left, either(B, A))))

    def test_boxes_parted_by_cases_within_boxes(self):
        rows = [
            "| 1. a or b by assumed", "| | 2. a by assumed", "| | 3. b or a by right 2", "| | 4. b by assumed",
            "| | | 5. c by assumed", "| | | 6. b by again 4", "| | 7. c then b by make 5", "| | 8. b or a by left 4",
            "| 9. b or a by case 1 2 4", "10. a or b then b or a by make 1",
        ]
        self.is_read(rows, [], "a or b then b or a",
                     ("make", either(A, B), ("case", U0, ("right", B, U1), ("left", U1, A), either(B, A))))

    def test_the_end_of_a_box_that_has_boxes_within_it(self):
        # The last row of the box of 1 that stands in no box within it is row 2.
        rows = [
            "| 1. a by assumed", "| 2. a or b by left 1", "| | 3. c by assumed", "| | 4. a by again 1",
            "5. a then a or b by make 1",
        ]
        self.is_read(rows, [], "a then a or b", ("make", A, ("left", U0, B)))
        # There is no other row but its first one.
        rows = ["| 1. a by assumed", "| | 2. c by assumed", "| | 3. a by again 1", "4. a then a by make 1"]
        self.is_read(rows, [], "a then a", ("make", A, U0))
        rows[3] = "4. a then c then a by make 1"
        self.assertEqual(refused(self, "BadRow", read_sheet, rows).at, 4)

    def test_the_first_row_assumed_and_rows_assumed_one_behind_the_other(self):
        rows = ["| 1. a by assumed", "| 2. b by assumed", "| | 3. c by assumed", "| | 4. a by assumed",
                "| 5. a then a by make 4", "6. a then a by make 1"]
        self.is_read(rows, [], "a then a", ("make", A, U0))
        rows[5] = "6. b then a then a by make 2"
        self.is_read(rows, [], "b then a then a", ("make", B, ("make", A, U1)))

    def test_given_rows_alone(self):
        self.is_read(["1. a by given"], ["a"], "a", U0)
        self.is_read(["1. a by given", "2. b by given", "3. a by given"], ["a", "b", "a"], "a", U2)

    def test_again(self):
        rows = ["1. a by given", "2. a or b by left 1", "| 3. c by assumed", "| 4. a or b by again 2",
                "| 5. a or b by again 4", "6. c then a or b by make 3", "7. c then a or b by again 6"]
        self.is_read(rows, ["a"], "c then a or b", ("make", C, ("left", U0, B)))
        rows = ["| 1. a by assumed", "2. a then a by make 1", "| 3. b by assumed", "| 4. a then a by again 2",
                "| | 5. c by assumed", "| | 6. a then a by again 4", "| 7. c then a then a by make 5",
                "8. b then c then a then a by make 3"]
        self.is_read(rows, [], "b then c then a then a", ("make", B, ("make", C, ("make", A, U2))))

    def test_a_letter_called_by(self):
        rows = ["1. by by given", "| 2. by and by by assumed", "| 3. by by again 1",
                "4. by and by then by by make 2", "5. (by and by then by) or by by left 4"]
        self.is_read(rows, ["by"], "(by and by then by) or by", ("left", ("make", both(BY, BY), U0), BY))

    def test_brackets_and_blanks_that_are_not_needed(self):
        rows = ["1. ((a)) by given", "2.   (b)and a   by given", "3. a and(b  and a) by pair 1 2",
                "4. ( a ) and ((b and (a))) by again 3"]
        self.is_read(rows, ["a", "b and a"], "a and (b and a)", ("pair", U0, U1))

    def test_escapes_to_any_statement(self):
        rows = ["1. never by given", "| 2. a by assumed", "| 3. never by escape 1", "4. a then never by make 2",
                "5. a then never by escape 1"]
        self.is_read(rows, ["never"], "a then never", ("escape", U0, leads(A, ("never",))))
        self.is_read(rows[:4], ["never"], "a then never", ("make", A, ("escape", U0, ("never",))))

    def test_sheets_that_were_told(self):
        for rows in sample_sheets.told():
            self.assertEqual(read_sheet(rows), second_sheets.read_sheet(rows))


class BadRow(unittest.TestCase):

    def is_bad(self, rows, at=None):
        """Check that the sheet is refused at that row, the last one where none is told."""
        self.assertEqual(refused(self, "BadRow", read_sheet, rows).at, len(rows) if at is None else at)

    def test_no_rows_and_a_last_row_in_a_box(self):
        self.is_bad([], 0)
        self.is_bad(["| 1. a by assumed"], 1)
        self.is_bad(["1. a by given", "| 2. b by assumed", "| 3. a by again 1"], 3)
        self.is_bad(["| 1. a by assumed", "| | 2. b by assumed", "| 3. a by again 1"], 3)

    def test_a_number_that_is_not_the_rows_own(self):
        for row in ("2. a by given", "0. a by given", "01. a by given", "+1. a by given", "-1. a by given",
                    "11. a by given", "a. a by given", ". a by given", "1.a by given", "1 . a by given",
                    "1 a by given", "1, a by given", " 1. a by given", "1.. a by given", "1\u0661. a by given",
                    "\u0661. a by given", "1 1. a by given", "", "1", "1.", "1. "):
            with self.subTest(row=row):
                self.is_bad([row])
        self.is_bad(["1. a by given", "1. a by again 1"], 2)
        self.is_bad(["1. a by given", "3. a by again 1"], 2)

    def test_the_place_is_told_whatever_number_the_row_bears(self):
        self.is_bad(["1. a by given", "7. a by again 1", "3. a by again 1"], 2)
        self.is_bad(["4. a by given"], 1)

    def test_bars(self):
        for row in ("| 1. a by given", "|1. a by given", "|  1. a by given", " | 1. a by given", "|| 1. a by given",
                    "1. | a by given", "| | 1. a by assumed", "1. a by assumed", "|1. a by assumed",
                    "||1. a by assumed", "|\t1. a by assumed", "|"):
            with self.subTest(row=row):
                self.is_bad([row])
        two = ["| 1. a by assumed", "| 2. a or b by left 1"]
        for row in ("| | 3. a by again 1", "| | | 3. c by assumed", "3. c by assumed", "3. a by again 1",
                    "| 3.  by again 1", "|  | 3. c by assumed", "| |3. c by assumed", "| | 3. c by given"):
            with self.subTest(row=row):
                self.is_bad([*two, row])
        self.assertEqual(read_sheet([*two, "| | 3. c by assumed", "4. a then a or b by make 1"])[1],
                         read("a then a or b"))

    def test_texts_of_no_statement(self):
        for text in ("", "()", "a and", "A", "a b", "a.", "(a", "a)", "then", "a by b", "abcdefghi", "a\tand b",
                     "a1", "a or or b", "a\u00e4", "never never", "|", "| a", "a\n"):
            with self.subTest(text=text):
                self.is_bad([f"1. {text} by given"])

    def test_reasons(self):
        for reason in ("", "use", "name", "Given", "given ", " given", "givens", "giv", "given 1", "assumed",
                       "given by", "by given given", "given\t", "given\n", "again", "again 1", "again 0"):
            with self.subTest(reason=reason):
                self.is_bad([f"1. a by {reason}"])
        for row in ("1. a", "1. a given", "1. a bygiven", "1. aby given", "1. by given", "1. a by", "1. a  given",
                    "1.  by given", "1. a By given", "1. a\tby given", "1. a by\tgiven"):
            with self.subTest(row=row):
                self.is_bad([row])

    def test_how_many_numbers(self):
        ahead = ["1. a and a by given", "2. a then a by given", "3. a by given", "4. a or a by given",
                 "5. never by given", "| 6. a by assumed"]
        right = {
            "pair": ("a and a", "3 3"), "first": ("a", "1"), "second": ("a", "1"), "left": ("a or a", "3"),
            "right": ("a or a", "3"), "make": ("a then a", "6"), "case": ("a", "4 6 6"), "apply": ("a", "2 3"),
            "escape": ("a", "5"), "again": ("a", "3"),
        }
        for word, (text, numbers) in right.items():
            with self.subTest(word=word):
                self.assertEqual(read_sheet([*ahead, f"7. {text} by {word} {numbers}"])[1], read(text))
                words = numbers.split()
                for wrong in (
                    words[:-1], [*words, words[-1]], [*words, ""], ["", *words], [" ".join(words) + " "],
                    [*words[:-1], "0" + words[-1]], [*words[:-1], "+" + words[-1]], [*words[:-1], words[-1] + "."],
                    [*words[:-1], "7"], [*words[:-1], "8"], [*words[:-1], "0"], [*words[:-1], "-1"],
                    [*words[:-1], "99"], [*words[:-1], "a"], [*words[:-1], "9" * 6000], [*words[:-1], "\u0663"],
                    ["  ".join(words)] if len(words) > 1 else ["1", "1"],
                ):
                    self.is_bad([*ahead, " ".join([f"7. {text} by {word}", *wrong])])
        self.is_bad([*ahead, "| 7. a by assumed 6"], 7)
        self.is_bad(["1. a by given", "2. b by given 1"], 2)

    def test_rows_that_are_not_seen(self):
        ahead = ["| 1. a by assumed", "| 2. a or b by left 1", "3. a then a or b by make 1", "| 4. c by assumed"]
        for row in ("| 5. a by again 1", "5. a by again 1", "| 5. a or b by again 2", "5. a or b by again 2",
                    "5. c by again 4", "| 5. a and c by pair 1 4", "| 5. c and a by pair 4 1", "5. a by again 5",
                    "5. a or c by left 1", "5. c then a by make 1"):
            with self.subTest(row=row):
                self.is_bad([*ahead, row])
        self.is_bad(["1. a by again 2", "2. a by given"], 1)
        self.is_bad(["1. a by given", "2. a by again 2"], 2)
        self.is_bad(["1. a by given", "2. a by again 3", "3. a by again 1"], 2)

    def test_boxes_that_are_not_seen_or_not_ended(self):
        # A box that has not ended.
        self.is_bad(["| 1. a by assumed", "| 2. a then a by make 1"])
        # A box within a box that has ended.
        ahead = ["| 1. b by assumed", "| | 2. a by assumed", "| 3. a then a by make 2", "4. b then a then a by make 1"]
        self.is_bad([*ahead, "5. a then a by make 2"])
        self.is_bad([*ahead, "| 5. b by assumed", "| 6. a then a by make 2"])
        # A box that stands in fewer boxes than the row, though it has ended.
        self.is_bad(["| 1. a by assumed", "| 2. b by assumed", "| 3. a then a by make 1"])
        self.is_bad(["| 1. a by assumed", "| 2. b by assumed", "| | 3. c by assumed", "| | 4. a then a by make 1"])
        self.assertEqual(read_sheet(["| 1. a by assumed", "| 2. b by assumed", "3. a then a by make 1"])[2],
                         ("make", A, U0))
        # A row that is no first row of a box, or the box itself in the place of a row.
        self.is_bad(["1. a by given", "2. a then a by make 1"])
        self.is_bad(["| 1. a by assumed", "| 2. a by again 1", "3. a then a by make 2"])
        self.is_bad(["| 1. a by assumed", "2. a or b by left 1"])
        self.is_bad(["1. a or a by given", "| 2. a by assumed", "| 3. a by case 1 2 2"])
        self.is_bad(["1. a or a by given", "| 2. a by assumed", "3. a by case 2 2 2"])
        self.is_bad(["1. a or a by given", "| 2. a by assumed", "3. a by case 1 1 2"])
        self.is_bad(["1. a or a by given", "| 2. a by assumed", "3. a by case 1 2 1"])

    def test_given_rows_behind_others_or_in_boxes(self):
        self.is_bad(["1. a by given", "2. a by again 1", "3. b by given"])
        self.is_bad(["| 1. a by assumed", "2. b by given"])
        self.is_bad(["| 1. a by assumed", "| 2. b by given"])
        self.is_bad(["1. a by given", "| 2. b by given"])
        self.is_bad(["1. a by given", "| 2. b by assumed", "3. b then b by make 2", "4. a by given"])

    def test_statements_that_are_not_what_the_reason_asks(self):
        ahead = [
            "1. a and b by given", "2. a then b by given", "3. a by given", "4. a or b by given",
            "5. never by given", "| 6. a by assumed", "| 7. a or c by left 6", "| 8. b by assumed",
            "| 9. a or c by left 3", "| 10. c by assumed",
        ]
        for row in (
            "b and a by pair 3 1", "a or a by pair 3 3", "a and b by pair 3 3", "a then a by pair 3 3", "a by pair 3 3",
            "a and a and b by pair 1 3",
            "b by first 1", "a by second 1", "a by first 2", "b by second 2", "a by first 4", "a by first 3",
            "a and b by first 1", "a or b by left 2", "b or a by left 3", "a and b by left 3", "a then b by left 3",
            "a by left 3", "a or b by right 3", "a and a by right 3", "b or a by right 4", "a or c by right 3",
            "b by apply 3 2", "a by apply 2 3", "b by apply 2 2", "b by apply 1 3", "b by apply 4 3", "b by apply 2 4",
            "c by apply 2 3", "a by escape 3", "never by escape 4", "a then never by escape 1",
            "a then a by make 6", "a then c by make 6", "b then a or c by make 6", "a and (a or c) by make 6",
            "a or (a or c) by make 6", "a or c by make 6", "a then a or c then a by make 6", "a or c by make 8",
            "a or c by case 4 8 6", "a or c by case 4 6 6", "a or c by case 4 8 8", "a or b by case 4 6 8",
            "a or c by case 1 6 8", "a or c by case 2 6 8", "a by case 4 6 8", "a or c by case 4 6 10",
            "c by case 4 6 10", "c or a by case 4 6 8", "b by again 3", "a and b by again 2",
        ):
            with self.subTest(row=row):
                self.is_bad([*ahead, f"11. {row}"])
        for row in (
            "a and a by pair 3 3", "a by first 1", "b by second 1", "a or b by left 3", "b or a by right 3",
            "b by apply 2 3", "a then never by escape 5", "a then a or c by make 6", "a or c by case 4 6 8",
            "a and b by again 1", "b then a or c by make 8", "c then c by make 10",
        ):
            with self.subTest(row=row):
                self.assertEqual(read_sheet([*ahead, f"11. {row}"])[1], read(row.rpartition(" by ")[0]))

    def test_a_case_whose_sides_or_ends_do_not_fit(self):
        ahead = ["1. a or b by given", "2. c by given", "| 3. a by assumed", "| 4. c by again 2", "| 5. b by assumed",
                 "| 6. c by again 2", "| 7. b by assumed", "| 8. b or c by left 7"]
        self.assertEqual(read_sheet([*ahead, "9. c by case 1 3 5"])[1], C)
        for row in ("c by case 1 5 3", "c by case 1 3 3", "c by case 1 5 5", "c by case 1 3 7", "b or c by case 1 3 7",
                    "b by case 1 3 5", "c by case 2 3 5", "c by case 1 4 6", "c by case 3 3 5"):
            with self.subTest(row=row):
                self.is_bad([*ahead, f"9. {row}"])

    def test_the_first_of_two_counts(self):
        good = ["1. a by given", "2. a or b by left 1", "| 3. c by assumed", "| 4. a by again 1", "5. c then a by make 3"]
        spoiled = (
            "1. a by again 1", "2. a or b by right 1", "| 3. c by given", "| 4. a by again 5", "5. c then a by make 4",
        )
        for one in range(5):
            for other in range(one, 5):
                rows = list(good)
                for at in (one, other):
                    rows[at] = spoiled[at]
                self.is_bad(rows, one + 1)

    def test_spoiled_sheets_as_told_a_second_time(self):
        found = {}
        for rows in sample_sheets.all_spoiled(61, 6000):
            try:
                expected = second_sheets.read_sheet(rows)
            except second_sheets.Refused as refusal:
                kind, at = refusal.args
                with self.subTest(rows=rows):
                    self.assertEqual(refused(self, kind, read_sheet, rows).at, at)
            else:
                kind = None
                with self.subTest(rows=rows):
                    self.assertEqual(read_sheet(rows), expected)
            found[kind] = found.get(kind, 0) + 1
        self.assertGreater(found["BadRow"], 3000)
        self.assertGreater(found[None], 200)


class TooLarge(unittest.TestCase):

    def lefts(self, many):
        """A sheet whose last row has a paper of that depth and size."""
        paper = U0
        for _ in range(many - 1):
            paper = ("left", paper, B)
        return sheet([A], paper), paper

    def test_a_size_of_just_2000_and_2001(self):
        for many in (1999, 2000):
            paper, a = sample_papers.of_size(many)
            self.assertEqual(read_sheet(sheet([samples.E], paper)), ([samples.E], a, paper))
        for many in (2001, 2002, 5000):
            refused(self, "TooLarge", read_sheet, sheet([samples.E], sample_papers.of_size(many)[0]))

    def test_a_depth_of_just_200_and_201(self):
        for many in (199, 200):
            rows, paper = self.lefts(many)
            self.assertEqual(deep(paper), many)
            self.assertEqual(read_sheet(rows)[2], paper)
        for many in (201, 202, 290):
            refused(self, "TooLarge", read_sheet, self.lefts(many)[0])

    def test_rows_that_are_used_again_count_as_often(self):
        sizes = [1]
        for many in range(1, 148):
            sizes.append(2 * sizes[-1] + 2)
            rows = sample_sheets.doubling(many)
            if sizes[-1] <= 2000:
                self.assertEqual(size(read_sheet(rows)[2]), sizes[-1])
            else:
                refused(self, "TooLarge", read_sheet, rows)
        self.assertEqual(len(rows), 295)

    def test_just_2000_by_rows_that_are_used_again(self):
        rows = sample_sheets.doubling(9)
        # The sizes of the papers of these rows are 1534, 382, 46, 22, 4 and 1.
        last = 19
        for other in (15, 9, 7, 3, 1):
            at = len(rows) + 1
            rows += [f"{at}. a and a by pair {last} {other}", f"{at + 1}. a by first {at}"]
            last = at + 1
        self.assertEqual(size(read_sheet(rows)[2]), 1999)
        rows.append(f"{last + 1}. a or b by left {last}")
        self.assertEqual(size(read_sheet(rows)[2]), 2000)
        rows.append(f"{last + 2}. a or b by again {last + 1}")
        self.assertEqual(size(read_sheet(rows)[2]), 2000)
        rows.append(f"{last + 3}. a or b or c by left {last + 2}")
        refused(self, "TooLarge", read_sheet, rows)

    def test_the_last_row_alone_counts(self):
        rows = sample_sheets.doubling(140)
        at = len(rows)
        self.assertEqual(read_sheet([*rows, f"{at + 1}. a or b by left 1"])[2], ("left", U0, B))
        self.assertEqual(read_sheet([*rows, f"{at + 1}. a by again 1"])[2], U0)
        self.assertEqual(size(read_sheet([*rows, f"{at + 1}. a by again 15"])[2]), 382)
        refused(self, "TooLarge", read_sheet, [*rows, f"{at + 1}. a by again {at}"])
        refused(self, "TooLarge", read_sheet, [*rows, f"{at + 1}. a or b by left {at}"])

    def test_large_rows_in_boxes_that_are_not_used(self):
        rows = sample_sheets.doubling(100)
        at = len(rows)
        rows += [f"| {at + 1}. c by assumed", f"| {at + 2}. a by again {at}", f"| {at + 3}. a and a by pair {at} {at + 2}",
                 f"{at + 4}. c then a and a by make {at + 1}"]
        refused(self, "TooLarge", read_sheet, rows)
        self.assertEqual(read_sheet([*rows, f"{at + 5}. a or b by left 1"])[2], ("left", U0, B))

    def test_behind_a_row_that_is_bad(self):
        rows = sample_sheets.doubling(140)
        at = len(rows)
        for row in (f"{at + 1}. b by again {at}", f"| {at + 1}. a by assumed", "zz", f"{at}. a by again {at}"):
            self.assertEqual(refused(self, "BadRow", read_sheet, [*rows, row]).at, at + 1)
        for place in (2, 100, at):
            spoiled = list(rows)
            spoiled[place - 1] = f"{place}. b by again 1"
            self.assertEqual(refused(self, "BadRow", read_sheet, spoiled).at, place)

    def test_moved_papers_in_boxes_are_measured_like_others(self):
        rows = ["1. a by given", "| 2. b by assumed", "3. b then b by make 2"]
        at = 3
        for _ in range(120):
            rows += [f"{at + 1}. (b then b) and (b then b) by pair {at} {at}", f"{at + 2}. b then b by first {at + 1}"]
            at += 2
        rows += [f"| {at + 1}. c by assumed", f"| {at + 2}. b then b by again {at}",
                 f"{at + 3}. c then b then b by make {at + 1}"]
        refused(self, "TooLarge", read_sheet, rows)
        rows[at + 1] = f"| {at + 2}. b then b by again 7"
        self.assertEqual(size(read_sheet(rows)[2]), 15)


class Told(unittest.TestCase):

    def test_sheets_of_any_length_that_were_told(self):
        paper = ("pair", U0, U0)
        for _ in range(3):
            paper = put_in(paper, 0, paper)
        self.assertEqual(size(paper), 511)
        rows = sheet([A], paper)
        self.assertEqual(read_sheet(rows)[2], paper)
        large = put_in(paper, 0, ("pair", U0, ("pair", U0, ("pair", U0, U0))))
        rows = sheet([A], large)
        self.assertGreater(len(rows), 1000)
        self.assertEqual(size(large), 255 + 256 * 7)
        refused(self, "TooLarge", read_sheet, rows)

    def test_with_another_reason_in_the_last_row(self):
        pick = Random(62)
        found = {}
        for rows in sample_sheets.told(120, 40):
            ahead, _, _ = rows[-1].rpartition(" by ")
            at = len(rows)
            for _ in range(12):
                word = pick.choice(sample_sheets.REASONS)
                many = second_sheets.COUNTS.get(word, 1)
                numbers = "".join(f" {pick.randrange(max(1, at - 4), at + 1)}" for _ in range(many))
                other = [*rows[:-1], f"{ahead} by {word}{numbers}"]
                try:
                    expected = second_sheets.read_sheet(other)
                except second_sheets.Refused as refusal:
                    kind, place = refusal.args
                    self.assertEqual(refused(self, kind, read_sheet, other).at, place)
                else:
                    kind = None
                    self.assertEqual(read_sheet(other), expected)
                found[kind] = found.get(kind, 0) + 1
        self.assertGreater(min(found.values()), 20)

    def test_a_long_sheet_with_another_reason_in_its_last_row(self):
        paper, a = sample_papers.of_size(5001)
        rows = sheet([samples.E], paper)
        refused(self, "TooLarge", read_sheet, rows)
        ahead = rows[-1].rpartition(" by ")[0]
        at = len(rows)
        self.assertEqual(refused(self, "BadRow", read_sheet, [*rows[:-1], f"{ahead} by again 1"]).at, at)
        self.assertEqual(refused(self, "BadRow", read_sheet, [*rows[:-1], f"{ahead} by again {at}"]).at, at)
        whole = [*rows[:-1], f"{ahead} by given"]
        self.assertEqual(refused(self, "BadRow", read_sheet, whole).at, at)
        self.assertIn(told(a), ahead)

    def test_statements_nested_deeper_than_calls_may_be(self):
        paper = U0
        for _ in range(1100):
            paper = ("left", paper, B)
        rows = sheet([A], paper)
        ahead = rows[-1].rpartition(" by ")[0]
        self.assertEqual(refused(self, "BadRow", read_sheet, [*rows[:-1], f"{ahead} by right 1100"]).at, 1101)


class Purity(unittest.TestCase):

    def test_rows_stay_and_what_is_told_is_new(self):
        for rows in sample_sheets.told(60):
            before = list(rows)
            expected = copy.deepcopy(read_sheet(rows))
            givens, _, _ = read_sheet(rows)
            givens.append(A)
            self.assertEqual(rows, before)
            self.assertEqual(read_sheet(rows), expected)
        rows = ["1. a by given", "zz"]
        refused(self, "BadRow", read_sheet, rows)
        self.assertEqual(rows, ["1. a by given", "zz"])

    def test_what_is_told_is_a_tuple_with_a_list(self):
        told_by = read_sheet(["1. a by given"])
        self.assertEqual(told_by, ([A], A, U0))
        self.assertIsInstance(told_by, tuple)
        self.assertIsInstance(told_by[0], list)
        self.assertEqual(moved(told_by[2], 1, 1), U0)


if __name__ == "__main__":
    unittest.main()
