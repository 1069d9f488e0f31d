"""What point 4 promises of the whole, and a way through the whole program."""

import unittest

from onlybuilt.code import code
from onlybuilt.doubles import doubled
from onlybuilt.growths import seen
from onlybuilt.hall import Hall
from onlybuilt.lines import read_sheet
from onlybuilt.machine import run_code
from onlybuilt.middles import middle
from onlybuilt.papers import shows
from onlybuilt.reader import read
from onlybuilt.runs import run
from onlybuilt.seek import seek
from onlybuilt.sheets import sheet
from onlybuilt.steps import step
from onlybuilt.tables import twice
from onlybuilt.words import told
from tests import (
    sample_growths, sample_halls, sample_papers, sample_rooms, samples, second, second_growths, second_hall,
    second_machine, second_papers, second_steps, second_tables,
)


class Either(unittest.TestCase):

    def test_for_every_room_one_of_both_is_told(self):
        for givens, goal in [*sample_rooms.scattered(500, 17), *sample_rooms.at_the_bounds()]:
            word, told = seek(givens, goal)
            if word == "paper":
                self.assertEqual(shows(givens, told), goal)
            else:
                self.assertTrue(all(second_growths.holds(told, 0, a) for a in givens))
                self.assertFalse(second_growths.holds(told, 0, goal))


class NeverBoth(unittest.TestCase):

    def holds_where_all_hold(self, growth, givens, a):
        truths = [seen(growth, b) for b in givens]
        here = seen(growth, a)
        stands = [k for k in range(len(growth)) if all(truth[k] for truth in truths)]
        for k in stands:
            self.assertTrue(here[k])
        return len(stands)

    def test_what_papers_show_holds_where_all_givens_hold(self):
        growths = [*sample_growths.NAMED, *sample_growths.middling()[::3]]
        many = 0
        for givens, _, a in sample_papers.papers():
            for growth in growths:
                many += self.holds_where_all_hold(growth, givens, a)
        self.assertGreater(many, 1000)

    def test_what_is_sought_and_shown_holds_where_all_givens_hold(self):
        growths = [*sample_growths.NAMED, *sample_growths.middling()[::3]]
        for givens, goal in sample_rooms.scattered(400, 18):
            word, told = seek(givens, goal)
            if word == "paper":
                for growth in growths:
                    self.holds_where_all_hold(growth, givens, shows(givens, told))

    def test_no_growth_of_one_room_bars_what_is_shown_in_another(self):
        rooms = sample_rooms.scattered(150, 19)
        shown = [room for room in rooms if seek(*room)[0] == "paper"]
        for room in rooms:
            word, growth = seek(*room)
            if word == "growth":
                for givens, goal in shown:
                    self.holds_where_all_hold(growth, givens, goal)


class Run(unittest.TestCase):

    def test_a_paper_that_is_run_shows_the_same_at_each_step(self):
        for givens, goal in sample_rooms.scattered(300, 20):
            word, paper = seek(givens, goal)
            while word == "paper" and paper is not None:
                self.assertEqual(shows(givens, paper), goal)
                paper = step(len(givens), paper)

    def test_at_rest_it_speaks_of_parts_of_the_givens_and_of_what_it_shows_alone(self):
        for givens, goal in sample_rooms.scattered(300, 21):
            word, paper = seek(givens, goal)
            if word == "paper":
                told, after, _ = run(len(givens), paper, 1000, 1000)
                self.assertEqual(told, "rest")
                allowed = second_steps.allowed({}, givens, after)
                for a in second_steps.spoken({}, givens, after):
                    self.assertIn(a, allowed)

    def test_an_or_from_no_givens_is_a_left_or_a_right(self):
        found = []
        for goal in [a for a in samples.small() if a[0] == "or"]:
            word, paper = seek([], goal)
            if word == "paper":
                told, after, _ = run(0, paper, 1000, 1000)
                self.assertEqual(told, "rest")
                found.append(after[0])
        self.assertEqual(set(found), {"left", "right"})


class Middle(unittest.TestCase):

    def test_between_givens_that_show_a_goal_there_is_a_statement(self):
        many = 0
        for givens, goal in sample_rooms.scattered(600, 22):
            ones, others = givens[::2], givens[1::2]
            self.assertEqual(middle(ones, others, goal)[0] == "middle", seek(givens, goal)[0] == "paper")
            if seek(givens, goal)[0] == "paper":
                _, m, to, back = middle(ones, others, goal)
                for name in second.letters(m):
                    self.assertTrue(any(name in second.letters(a) for a in ones))
                    self.assertTrue(any(name in second.letters(a) for a in [*others, goal]))
                self.assertEqual(second_papers.shows({}, ones, to), m)
                self.assertEqual(second_papers.shows({}, [*others, m], back), goal)
                many += 1
        self.assertGreater(many, 200)

    def test_a_middle_holds_where_the_ones_hold(self):
        for givens, goal in sample_rooms.scattered(300, 23):
            answer = middle(givens, [], goal)
            if answer[0] == "middle":
                for growth in sample_growths.NAMED:
                    if all(second_growths.holds(growth, 0, a) for a in givens):
                        self.assertTrue(second_growths.holds(growth, 0, answer[1]))


class Table(unittest.TestCase):

    def test_either_a_paper_of_the_goal_doubled_or_a_row(self):
        found = {"paper": 0, "row": 0}
        for givens, goal in sample_rooms.scattered(2000, 24):
            if sample_rooms.fits(givens, doubled(goal)):
                word, told = twice(givens, goal)
                found[word] += 1
                if word == "paper":
                    self.assertEqual(second_papers.shows({}, givens, told), second_tables.doubled(goal))
                    self.assertTrue(second_tables.is_had(givens, goal))
                else:
                    self.assertTrue(all(second_tables.true_at(told, a) for a in givens))
                    self.assertFalse(second_tables.true_at(told, goal))
        self.assertGreater(min(found.values()), 50)


class Halls(unittest.TestCase):

    def test_just_those_stand_that_are_shown_without_a_gap_and_without_a_round(self):
        for seed in range(400, 500):
            made, model = Hall(), second_hall.Model()
            sample_halls.layered(seed, made, model)
            self.assertEqual(made.standing(), model.standing())
            for name in made.names():
                word, row = made.why(name)
                self.assertEqual(word, "stands" if name in made.standing() else "open")
                if word == "stands":
                    papers = [made.paper(other) for other in row]
                    for k, paper in enumerate(papers):
                        self.assertLessEqual(set(second_steps.names(paper)), set(row[:k]))
                    full = made.full(name)
                    self.assertEqual(shows([], full), made.statement(name))
                    self.assertEqual(second_steps.names(full), [])
                else:
                    last = made.paper(row[-1])
                    self.assertTrue(last is None or row[-1] in row[:-1])


class Machine(unittest.TestCase):

    def test_of_which_form_a_paper_is_at_rest(self):
        words = []
        for seed in range(300):
            paper, _ = sample_papers.Grower(seed, {}).grown([], 1 + seed % 30)
            shape, _ = run_code(code(paper), 4000)
            self.assertEqual(shape, second_machine.shape_at_rest(paper))
            _, after, _ = run(0, paper, 1000, 2000)
            self.assertEqual(shape[0], after[0])
            words.append(shape[0])
        self.assertEqual(set(words), {"pair", "left", "right", "make"})

    def test_papers_that_were_sought(self):
        many = 0
        for goal in samples.small():
            word, paper = seek([], goal)
            if word == "paper":
                shape, _ = run_code(code(paper), 4000)
                self.assertEqual(shape, second_machine.shape_at_rest(paper))
                many += 1
        self.assertGreater(many, 100)


class Through(unittest.TestCase):

    TEXTS = (
        ("same", "a then a", ()), ("swap", "a and b then b and a", ()), ("weak", "a then b then a", ()),
        ("one", "(a then a) or (b then c)", ("same",)), ("two", "(c then c) and (a then a)", ("same",)),
        ("three", "(a then a) or (b then c) or never", ("one",)),
        ("four", "c or (c then c) and (a then a)", ("two", "two")),
        ("gap", "b or (b then never)", ("same", "weak")), ("five", "a then (a then never) then b", ()),
        ("six", "(a or (a then never) then never) then never", ()),
        ("seven", "(a then never) or (b then never) then a and b then never", ()),
        ("eight", "b then b and (c or (c then c) and (a then a))", ("four",)),
    )

    def goes_through(self, made, name):
        """From the full paper of a name to its sheet, read back, and to the machine."""
        a = made.statement(name)
        full = made.full(name)
        self.assertEqual(shows([], full), a)
        rows = sheet([], full)
        self.assertEqual(read_sheet(rows), ([], a, full))
        self.assertEqual(rows[-1].partition(". ")[2].rpartition(" by ")[0], told(a))
        word, after, _ = run(0, full, 1000, 2000)
        self.assertEqual((word, shows([], after)), ("rest", a))
        shape, many = run_code(code(full), 4000)
        self.assertEqual(shape, second_machine.rest_shape(after))
        self.assertEqual(shape, run_code(code(after), 4000)[0])
        self.assertEqual(run_code(code(full), many - 1), (("more",), many - 1))
        for growth in [*sample_growths.NAMED, *sample_growths.middling()[::4]]:
            self.assertTrue(all(seen(growth, a)))

    def test_from_texts_to_the_machine(self):
        made = Hall()
        for name, text, _ in self.TEXTS:
            made.claim(name, read(text))
        for name, text, names in self.TEXTS:
            self.assertEqual(told(made.statement(name)), text)
            self.assertEqual(made.sought(name, list(names))[0], "growth" if name == "gap" else "paper")
        self.assertEqual(made.standing(), sorted({name for name, _, _ in self.TEXTS} - {"gap"}))
        for name in made.standing():
            self.goes_through(made, name)
        self.assertEqual(made.why("gap"), ("open", ["gap"]))
        self.assertEqual(twice([], made.statement("gap"))[0], "paper")

    def test_scattered_goals(self):
        made = Hall()
        goals = [goal for _, goal in sample_rooms.scattered(400, 25)]
        many = 0
        for goal in goals:
            made.claim("goal", goal)
            if made.sought("goal", [])[0] == "paper":
                self.goes_through(made, "goal")
                made.back()
                many += 1
            made.back()
        self.assertEqual(len(made), 0)
        self.assertGreater(many, 60)


if __name__ == "__main__":
    unittest.main()
