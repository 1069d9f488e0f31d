"""What point 4 promises of the whole, for what has landed: EITHER, NEVER BOTH and RUN."""

import unittest

from onlybuilt.growths import seen
from onlybuilt.papers import shows
from onlybuilt.runs import run
from onlybuilt.seek import seek
from onlybuilt.steps import step
from tests import sample_growths, sample_papers, sample_rooms, samples, second_growths, second_steps


class Either(unittest.TestCase):

    def test_for_every_room_one_of_both_is_told(self):
        for givens, goal in [*sample_rooms.scattered(500, 17), *sample_rooms.at_the_bounds()]:
            word, told = seek(givens, goal)
            if word == "paper":
                self.assertEqual(shows(givens, told), goal)
            else:
                self.assertTrue(all(second_growths.holds(told, 0, a) for a in givens))
                self.assertFalse(second_growths.holds(told, 0, goal))


class NeverBoth(unittest.TestCase):

    def holds_where_all_hold(self, growth, givens, a):
        truths = [seen(growth, b) for b in givens]
        here = seen(growth, a)
        stands = [k for k in range(len(growth)) if all(truth[k] for truth in truths)]
        for k in stands:
            self.assertTrue(here[k])
        return len(stands)

    def test_what_papers_show_holds_where_all_givens_hold(self):
        growths = [*sample_growths.NAMED, *sample_growths.middling()[::3]]
        many = 0
        for givens, _, a in sample_papers.papers():
            for growth in growths:
                many += self.holds_where_all_hold(growth, givens, a)
        self.assertGreater(many, 1000)

    def test_what_is_sought_and_shown_holds_where_all_givens_hold(self):
        growths = [*sample_growths.NAMED, *sample_growths.middling()[::3]]
        for givens, goal in sample_rooms.scattered(400, 18):
            word, told = seek(givens, goal)
            if word == "paper":
                for growth in growths:
                    self.holds_where_all_hold(growth, givens, shows(givens, told))

    def test_no_growth_of_one_room_bars_what_is_shown_in_another(self):
        rooms = sample_rooms.scattered(150, 19)
        shown = [room for room in rooms if seek(*room)[0] == "paper"]
        for room in rooms:
            word, growth = seek(*room)
            if word == "growth":
                for givens, goal in shown:
                    self.holds_where_all_hold(growth, givens, goal)


class Run(unittest.TestCase):

    def test_a_paper_that_is_run_shows_the_same_at_each_step(self):
        for givens, goal in sample_rooms.scattered(300, 20):
            word, paper = seek(givens, goal)
            while word == "paper" and paper is not None:
                self.assertEqual(shows(givens, paper), goal)
                paper = step(len(givens), paper)

    def test_at_rest_it_speaks_of_parts_of_the_givens_and_of_what_it_shows_alone(self):
        for givens, goal in sample_rooms.scattered(300, 21):
            word, paper = seek(givens, goal)
            if word == "paper":
                told, after, _ = run(len(givens), paper, 1000, 1000)
                self.assertEqual(told, "rest")
                allowed = second_steps.allowed({}, givens, after)
                for a in second_steps.spoken({}, givens, after):
                    self.assertIn(a, allowed)

    def test_an_or_from_no_givens_is_a_left_or_a_right(self):
        found = []
        for goal in [a for a in samples.small() if a[0] == "or"]:
            word, paper = seek([], goal)
            if word == "paper":
                told, after, _ = run(0, paper, 1000, 1000)
                self.assertEqual(told, "rest")
                found.append(after[0])
        self.assertEqual(set(found), {"left", "right"})


if __name__ == "__main__":
    unittest.main()
