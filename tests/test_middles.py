import copy
import unittest
from random import Random

from onlybuilt.growths import holds, is_growth
from onlybuilt.middles import middle
from onlybuilt.papers import shows
from onlybuilt.reader import read
from onlybuilt.seek import seek
from onlybuilt.shifts import deep, size
from onlybuilt.words import told
from tests import sample_rooms, samples, second, second_growths, second_papers, second_steps
from tests.refused import refused
from tests.samples import A, B, C, D, NEVER, both, either, leads


def names_of(statements):
    return {name for a in statements for name in second.letters(a)}


class Told(unittest.TestCase):

    def is_told(self, ones, others, goal):
        """Check all that 28 and 29 ask of what is told, and tell it."""
        answer = middle(ones, others, goal)
        if answer[0] == "growth":
            self.bars(answer[1], [*ones, *others], goal)
            return answer
        word, m, to, back = answer
        self.assertEqual(word, "middle")
        self.assertTrue(second.is_statement(m))
        self.assertLessEqual(names_of([m]), names_of(ones))
        self.assertLessEqual(names_of([m]), names_of([*others, goal]))
        for givens, paper, a in ((ones, to, m), ([*others, m], back, goal)):
            self.assertEqual(shows(givens, paper), a)
            self.assertEqual(second_papers.shows({}, givens, paper), a)
            self.assertEqual(second_steps.names(paper), [])
            self.assertLessEqual(deep(paper), 200)
        return answer

    def bars(self, growth, givens, goal):
        self.assertTrue(is_growth(growth) and second_growths.is_growth(growth))
        self.assertLessEqual(len(growth), 1000)
        for a in givens:
            self.assertTrue(holds(growth, 0, a) and second_growths.holds(growth, 0, a))
        self.assertFalse(holds(growth, 0, goal) or second_growths.holds(growth, 0, goal))
        self.assertLessEqual({name for names, _ in growth for name in names}, names_of([*givens, goal]))

    def all_ways(self, givens, goal):
        """Ask for the middle, the givens parted in every way; tell how many middles were told."""
        found = 0
        for bits in range(1 << len(givens)):
            ones = [a for k, a in enumerate(givens) if bits >> k & 1]
            others = [a for k, a in enumerate(givens) if not bits >> k & 1]
            found += self.is_told(ones, others, goal)[0] == "middle"
        return found


class Middles(Told):

    def test_what_is_shown_parted_in_every_way(self):
        for givens, goal in sample_rooms.told(sample_rooms.SHOWN):
            with self.subTest(givens=givens, goal=goal):
                self.assertEqual(self.all_ways(givens, goal), 1 << len(givens))

    def test_what_is_not_shown_parted_in_every_way(self):
        for givens, goal in sample_rooms.told(sample_rooms.BARRED):
            with self.subTest(givens=givens, goal=goal):
                self.assertEqual(self.all_ways(givens, goal), 0)

    def test_middles_that_can_hardly_be_others(self):
        # What is told may be any right one; each of these is the same as all right ones, but for its form.
        rows = (
            (["a and b"], ["a then c"], "c", "a"), (["a", "a then b"], ["b then c"], "c", "b"),
            (["a then b"], ["a", "c"], "b", "a then b"), (["a or b"], ["a then c", "b then c"], "c", "a or b"),
            (["c then a", "c or b"], ["a then d", "b then d"], "d", "a or b"),
            (["a then never"], ["a"], "c", "a then never"), (["c", "a then c then b"], ["a"], "b", "a then b"),
            (["c then never", "c or a"], ["b"], "a and b", "a"),
            (["(a then c) then b", "b and a then d"], ["(a then e) and (e then c)"], "c or d", None),
            (["(a then b) then c"], ["a then b"], "c", "(a then b) then c"),
        )
        for ones, others, goal, same in rows:
            with self.subTest(ones=ones, others=others, goal=goal):
                ones, others = [read(text) for text in ones], [read(text) for text in others]
                answer = self.is_told(ones, others, read(goal))
                if same is None:
                    self.assertEqual(answer[0], "growth")
                else:
                    self.assertEqual(seek([answer[1]], read(same))[0], "paper")
                    self.assertEqual(seek([read(same)], answer[1])[0], "paper")

    def test_every_joint_on_every_side(self):
        found = {"middle": 0, "growth": 0}
        joints = [(word, a, b) for word in samples.WORDS for a in (A, B, NEVER) for b in (A, B, C)]
        plain = (A, B, NEVER, both(A, C), either(B, C), leads(B, C), leads(A, NEVER))
        for joint in joints:
            for one in plain:
                for other in plain:
                    for ones, others, goal in (
                        ([joint], [one], other), ([one], [joint], other), ([one], [other], joint),
                        ([joint, one], [], other), ([], [joint, one], other),
                    ):
                        found[self.is_told(ones, others, goal)[0]] += 1
        self.assertGreater(min(found.values()), 1000)

    def test_small_rooms(self):
        pick = Random(30)
        found = {"middle": 0, "growth": 0}
        for givens, goal in sample_rooms.small():
            many = pick.randrange(len(givens) + 1)
            found[self.is_told(givens[:many], givens[many:], goal)[0]] += 1
        self.assertGreater(min(found.values()), 500)

    def test_scattered_rooms(self):
        pick = Random(31)
        found = {"middle": 0, "growth": 0}
        for givens, goal in sample_rooms.scattered(3000, 32):
            ones = [a for a in givens if pick.randrange(2)]
            others = [a for a in givens if pick.randrange(2)]
            whole = [*ones, *others]
            if sample_rooms.fits(whole, goal):
                found[self.is_told(ones, others, goal)[0]] += 1
        self.assertGreater(min(found.values()), 500)

    def test_it_is_the_room_of_both_sides_that_is_looked_at(self):
        for givens, goal in sample_rooms.scattered(400, 33):
            word = "middle" if seek(givens, goal)[0] == "paper" else "growth"
            for many in range(len(givens) + 1):
                self.assertEqual(self.is_told(givens[:many], givens[many:], goal)[0], word)

    def test_just_ten_joints_and_four_knots(self):
        for givens, goal in sample_rooms.at_the_bounds():
            with self.subTest(givens=givens, goal=goal):
                self.all_ways(givens, goal)

    def test_sixty_givens(self):
        shown, barred = sample_rooms.sixty()
        for rooms, word in ((shown, "middle"), (barred, "growth")):
            for givens, goal in rooms:
                for many in (0, 1, 30, 59, 60):
                    self.assertEqual(self.is_told(givens[:many], givens[many:], goal)[0], word)
                self.assertEqual(self.is_told(givens[::2], givens[1::2], goal)[0], word)

    def test_long_chains_over_the_sides(self):
        names = [samples.letter(name) for name in "abcdefghijk"]
        links = [leads(a, b) for a, b in zip(names, names[1:])]
        self.assertEqual(len(links), 10)
        for ones in ([A, *links[::2]], links[::2], links[:5], [*links[5:], A], links[::-3]):
            others = [a for a in [A, *links] if a not in ones]
            self.assertEqual(self.is_told(ones, others, names[-1])[0], "middle")
            self.assertEqual(self.is_told(ones, others[1:], names[-1])[0], "growth")

    def test_large_papers_stay_far_below_the_bound(self):
        # Rooms that were found by looking for deep papers.
        rows = (
            (["l and ((g then (j then f then l and (h then l and a and l)) and a) then never)"], ["a", "l"], "g"),
            (["e and ((l then e and (h then g then j then d and e and d)) and d) then never"], ["d", "e"], "a"),
            (["(j then e then k and (i and (b then g then i and k)) and k and i) then never"], ["k", "i"], "never"),
            (["i"], ["h"], "(h and (c then h and ((d then i or j) and h and i)) then never) and h then a"),
        )
        for ones, others, goal in rows:
            ones, others = [read(text) for text in ones], [read(text) for text in others]
            word, _, to, back = self.is_told(ones, others, read(goal))
            self.assertLessEqual(max(deep(to), deep(back)), 100)
            self.assertLessEqual(max(size(to), size(back)), 1000)


class Edges(Told):

    def test_no_ones(self):
        for goal in ("a then a", "a or b then b or a", "never then a"):
            _, m, to, _ = self.is_told([], [], read(goal))
            self.assertEqual(shows([], to), m)
            self.assertEqual(second.letters(m), [])
        _, m, to, _ = self.is_told([], [A, leads(A, B)], B)
        self.assertEqual(shows([], to), m)
        self.assertEqual(self.is_told([], [], A)[0], "growth")
        self.assertEqual(self.is_told([], [A], B)[0], "growth")

    def test_no_others_and_a_goal_without_letters(self):
        rows = (
            (["a", "a then never"], "never"), (["a and never"], "never or never"), (["a"], "never then never"),
            (["a or b", "a then never", "b then never"], "never and never"), ([], "never then never"),
            (["(a then never) then never", "a then never"], "never"),
        )
        for ones, goal in rows:
            with self.subTest(ones=ones, goal=goal):
                _, m, _, _ = self.is_told([read(text) for text in ones], [], read(goal))
                self.assertEqual(second.letters(m), [])
        self.assertEqual(self.is_told([A], [], NEVER)[0], "growth")

    def test_sides_without_a_letter_in_common(self):
        rows = (
            (["a", "a then never"], ["b"], "c"), (["a"], ["b", "b then never"], "c"),
            (["a"], ["b", "b then c"], "c"), (["a and never"], ["b"], "b and c"), (["a or a"], [], "b then b"),
        )
        for ones, others, goal in rows:
            with self.subTest(ones=ones, others=others, goal=goal):
                whole = ([read(text) for text in ones], [read(text) for text in others], read(goal))
                word, m, _, _ = self.is_told(*whole)
                self.assertEqual((word, second.letters(m)), ("middle", []))
        self.assertEqual(self.is_told([A], [B], C)[0], "growth")

    def test_a_given_twice_and_on_both_sides(self):
        for ones, others in (
            ([A, A], [leads(A, B)]), ([A], [A, leads(A, B)]), ([A, leads(A, B)], [A, leads(A, B)]),
            ([leads(A, B)] * 3, [A, A]), ([leads(A, B), A, leads(A, B)], [A]), ([], [A, leads(A, B), A]),
        ):
            self.assertEqual(self.is_told(ones, others, B)[0], "middle")
            self.assertEqual(self.is_told(ones, others, C)[0], "growth")
        self.assertEqual(self.is_told([B], [], B)[0], "middle")
        self.assertEqual(self.is_told([B], [B], B)[0], "middle")
        self.assertEqual(self.is_told([either(A, B)], [either(A, B)], either(B, A))[0], "middle")

    def test_the_middle_is_the_last_given(self):
        _, m, _, back = self.is_told([A, leads(A, B)], [leads(B, C), D], C)
        self.assertEqual(shows([leads(B, C), D, m], back), C)
        self.assertIn(("use", 2), [second_papers.at_road(back, road) for road in second_papers.roads(back)])

    def test_a_goal_that_is_never(self):
        self.assertEqual(self.is_told([A], [leads(A, NEVER)], NEVER)[0], "middle")
        self.assertEqual(self.is_told([NEVER], [], NEVER)[0], "middle")
        self.assertEqual(self.is_told([], [NEVER], A)[0], "middle")
        self.assertEqual(self.is_told([], [], NEVER), ("growth", [([], [])]))

    def test_a_middle_is_a_text_that_may_be_handed_in(self):
        for givens, goal in sample_rooms.scattered(300, 34):
            answer = middle(givens, [], goal)
            if answer[0] == "middle":
                self.assertEqual(read(told(answer[1])), answer[1])


class Refused(unittest.TestCase):

    def is_refused(self, ones, others, goal):
        refused(self, "TooLarge", middle, ones, others, goal)

    def test_joints_of_all_together(self):
        four, three = both(both(A, B), both(A, both(A, B))), both(A, both(A, both(A, B)))
        self.assertEqual(middle([four], [three], three)[0], "middle")
        for ones, others, goal in (
            ([four], [four], three), ([four], [three], four), ([four, both(A, B)], [three], three),
            ([four], [three, both(A, B)], three), ([four] * 3, [], A), ([], [four] * 3, A),
            ([both(A, B)] * 6, [both(A, B)] * 5, A),
        ):
            self.is_refused(ones, others, goal)
        self.assertEqual(middle([both(A, B)] * 5, [both(A, B)] * 5, A)[0], "middle")

    def test_knots_of_all_together(self):
        knot, inner = either(A, B), leads(leads(A, B), C)
        self.assertEqual(middle([knot, inner], [knot], knot)[0], "middle")
        for ones, others, goal in (
            ([knot, inner], [knot, inner], knot), ([knot] * 5, [], A), ([], [inner] * 5, A),
            ([knot] * 2, [knot] * 2, inner), ([], [], leads(either(knot, knot), either(A, leads(knot, A)))),
        ):
            self.is_refused(ones, others, goal)

    def test_what_is_not_shown_is_refused_likewise(self):
        self.is_refused([either(A, B)] * 5, [], C)
        self.is_refused([], [], samples.deepest()[0])


class Purity(unittest.TestCase):

    def test_what_is_handed_in_stays_as_it_was(self):
        for givens, goal in sample_rooms.scattered(200, 35):
            ones, others = givens[::2], givens[1::2]
            before = copy.deepcopy((ones, others))
            middle(ones, others, goal)
            self.assertEqual((ones, others), before)
        ones = [either(A, B)] * 5
        refused(self, "TooLarge", middle, ones, ones, A)
        self.assertEqual(ones, [either(A, B)] * 5)

    def test_asked_again_the_same_is_told_and_growths_are_new(self):
        for givens, goal in [*sample_rooms.scattered(200, 36), *sample_rooms.told(sample_rooms.BARRED)]:
            expected = copy.deepcopy(middle(givens, givens[:0], goal))
            answer = middle(givens, [], goal)
            if answer[0] == "growth":
                for names, above in answer[1]:
                    names.append("z")
                    above.append(0)
                answer[1].clear()
            self.assertEqual(middle(givens, [], goal), expected)

    def test_the_same_list_on_both_sides(self):
        givens = [A, leads(A, B)]
        word, m, to, back = middle(givens, givens, B)
        self.assertEqual((word, shows(givens, to)), ("middle", m))
        self.assertEqual(shows([*givens, m], back), B)
        self.assertEqual(givens, [A, leads(A, B)])


if __name__ == "__main__":
    unittest.main()
