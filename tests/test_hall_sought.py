"""Papers that are sought for the names of a hall."""

import unittest
from random import Random

from onlybuilt.growths import is_growth
from onlybuilt.hall import Hall
from onlybuilt.papers import shows_by
from onlybuilt.reader import read
from onlybuilt.seek import seek
from onlybuilt.shifts import deep
from tests import sample_rooms, samples, second, second_growths, second_papers, second_steps
from tests.refused import refused
from tests.sample_halls import NAMES, PAPER, SAME, hall, name
from tests.samples import A, B, C, both, either, leads


def claimed(**statements):
    made = Hall()
    for word, text in statements.items():
        made.claim(word, read(text))
    return made


def book_of(made):
    return {word: made.statement(word) for word in made.names()}


class Sought(unittest.TestCase):

    def is_told(self, made, word, *names):
        """Check all that 40 asks of what is told, and tell the word of it."""
        before = {text: made.paper(text) for text in made.names()}
        rests = names[0] if names else [text for text in made.names() if text != word]
        book = book_of(made)
        goal = made.statement(word)
        answer, told = made.sought(word, *names)
        self.assertEqual(book_of(made), book)
        if answer == "paper":
            before[word] = told
            self.assertEqual(shows_by(book, [], told), goal)
            self.assertEqual(second_papers.shows(book, [], told), goal)
            self.assertLessEqual(set(second_steps.names(told)), set(rests))
            self.assertLessEqual(deep(told), 200)
        else:
            self.assertEqual(answer, "growth")
            self.bars(told, [book[text] for text in rests], goal)
        self.assertEqual({text: made.paper(text) for text in made.names()}, before)
        return answer

    def bars(self, growth, givens, goal):
        self.assertTrue(is_growth(growth) and second_growths.is_growth(growth))
        self.assertLessEqual(len(growth), 1000)
        self.assertTrue(all(second_growths.holds(growth, 0, a) for a in givens))
        self.assertFalse(second_growths.holds(growth, 0, goal))
        known = {text for a in [*givens, goal] for text in second.letters(a)}
        self.assertLessEqual({text for names, _ in growth for text in names}, known)

    def test_by_a_list(self):
        made = claimed(a="a", rule="a then b", goal="b")
        self.assertEqual(self.is_told(made, "goal", ["a", "rule"]), "paper")
        self.assertEqual(set(second_steps.names(made.paper("goal"))), {"a", "rule"})
        self.assertEqual(self.is_told(made, "goal", ["a"]), "growth")
        self.assertEqual(self.is_told(made, "goal", ["rule"]), "growth")
        self.assertEqual(self.is_told(made, "goal", []), "growth")

    def test_without_a_list_all_other_names(self):
        made = claimed(rule="a then b", goal="b", a="a")
        self.assertEqual(self.is_told(made, "goal"), "paper")
        self.assertEqual(self.is_told(made, "a"), "growth")
        self.assertEqual(made.sought("goal", None)[0], "paper")
        alone = claimed(goal="a then a")
        self.assertEqual(self.is_told(alone, "goal"), "paper")
        self.assertEqual(alone.standing(), ["goal"])
        self.assertEqual(self.is_told(claimed(goal="a"), "goal"), "growth")

    def test_the_room_has_all_other_names_sorted(self):
        made = claimed(c="a", b="a", d="b", goal="a and b")
        sorted_ones = claimed(c="a", b="a", d="b", goal="a and b")
        self.assertEqual(made.sought("goal"), sorted_ones.sought("goal", ["b", "c", "d"]))

    def test_a_name_twice_in_it_and_the_name_itself(self):
        made = claimed(a="a", rule="a then b", goal="b")
        self.assertEqual(self.is_told(made, "goal", ["a", "a", "rule", "a"]), "paper")
        self.assertEqual(self.is_told(made, "goal", ["goal"]), "paper")
        self.assertEqual(made.paper("goal"), name("goal"))
        self.assertEqual(made.standing(), [])
        self.assertEqual(self.is_told(made, "a", ["goal", "a", "goal"]), "paper")

    def test_a_name_twice_counts_twice_in_the_room(self):
        made = claimed(five="a and a and a and a and a and a", goal="b")
        self.assertEqual(self.is_told(made, "goal", ["five", "five"]), "growth")
        refused(self, "TooLarge", made.sought, "goal", ["five", "five", "five"])

    def test_assumed_ones_stand_behind_no_givens(self):
        made = claimed(a="a", b="a then b or c", goal="d then (b then d) and (c then a)")
        self.assertEqual(self.is_told(made, "goal"), "paper")
        made = claimed(a="a", b="a then b or c", goal="(b then d) then (c then d) then d")
        self.assertEqual(self.is_told(made, "goal"), "paper")
        self.assertEqual(set(second_steps.names(made.paper("goal"))), {"a", "b"})

    def test_it_takes_the_place_of_any_other_paper(self):
        made = hall(a=("first", ("pair", PAPER, PAPER)))
        self.assertEqual(self.is_told(made, "a", []), "paper")
        self.assertNotEqual(made.paper("a"), ("first", ("pair", PAPER, PAPER)))
        self.assertEqual(made.standing(), ["a"])
        made.back()
        self.assertEqual(made.paper("a"), ("first", ("pair", PAPER, PAPER)))

    def test_names_that_are_any_texts(self):
        made = Hall()
        for word in NAMES:
            made.claim(word, SAME)
        made.claim("goal", both(SAME, SAME))
        for word in NAMES:
            self.assertEqual(self.is_told(made, "goal", [word]), "paper")

    def test_scattered_rooms(self):
        pick = Random(50)
        found = {"paper": 0, "growth": 0}
        for givens, goal in [*sample_rooms.scattered(600, 51), *sample_rooms.at_the_bounds()]:
            made = Hall()
            names = [f"given {k}" for k in range(len(givens))]
            for word, a in zip(names, givens):
                made.claim(word, a)
            made.claim("goal", goal)
            pick.shuffle(names)
            word = self.is_told(made, "goal", names)
            self.assertEqual(word, seek(givens, goal)[0])
            self.assertEqual(self.is_told(made, "goal"), word)
            found[word] += 1
        self.assertGreater(min(found.values()), 200)

    def test_what_was_sought_stands_and_has_a_full_paper(self):
        made = claimed(one="a then a", two="(a then a) then b or (b then a then a)", three="b then b",
                       goal="b or (b then b)")
        for word, names in (("one", []), ("three", []), ("two", ["one"]), ("goal", ["two", "three"])):
            self.assertEqual(self.is_told(made, word, names), "paper")
        self.assertEqual(made.standing(), ["goal", "one", "three", "two"])
        self.assertEqual(shows_by({}, [], made.full("goal")), made.statement("goal"))


class Deeds(unittest.TestCase):

    def test_a_seeking_that_told_a_paper_is_a_deed(self):
        made = claimed(a="a", goal="a or b")
        made.sought("goal")
        self.assertIsNotNone(made.paper("goal"))
        made.back()
        self.assertIsNone(made.paper("goal"))
        self.assertEqual(made.names(), ["a", "goal"])
        made.back()
        self.assertEqual(made.names(), ["a"])

    def test_one_that_told_the_same_paper_again_is_a_deed_too(self):
        made = claimed(a="a", goal="a or b")
        made.sought("goal")
        paper = made.paper("goal")
        made.sought("goal")
        made.back()
        self.assertEqual(made.paper("goal"), paper)
        made.back()
        self.assertIsNone(made.paper("goal"))

    def test_a_seeking_that_told_a_growth_is_none(self):
        made = claimed(a="a", goal="b")
        made.show("goal", name("goal"))
        self.assertEqual(made.sought("goal")[0], "growth")
        self.assertEqual(made.paper("goal"), name("goal"))
        made.back()
        self.assertIsNone(made.paper("goal"))

    def test_a_seeking_that_was_refused_is_none(self):
        made = claimed(a="a", goal="b or b or b or b or b or b")
        for word, names, kind in (
            ("goal", None, "TooLarge"), ("zz", None, "NoName"), ("goal", ["a", "zz"], "NoName"),
        ):
            refused(self, kind, made.sought, word, names)
        made.back()
        self.assertEqual(made.names(), ["a"])

    def test_each_kind_of_deed_taken_back_down_to_the_first(self):
        made = claimed(a="a then a", b="(a then a) or b")
        made.show("a", ("make", A, ("use", 0)))
        made.sought("b", ["a"])
        sought = made.paper("b")
        made.drop("a")
        made.claim("c", C)
        made.show("b", ("left", name("a"), B))
        made.strike("c")
        made.strike("b")
        states = [(["a"], None, None), (["a", "b"], None, ("left", name("a"), B)),
                  (["a", "b", "c"], None, ("left", name("a"), B)), (["a", "b", "c"], None, sought),
                  (["a", "b"], None, sought), (["a", "b"], ("make", A, ("use", 0)), sought),
                  (["a", "b"], ("make", A, ("use", 0)), None), (["a", "b"], None, None), (["a"], None, None)]
        for names, of_a, of_b in states:
            self.assertEqual((made.names(), made.paper("a")), (names, of_a))
            if "b" in names:
                self.assertEqual((made.statement("b"), made.paper("b")), (either(SAME, B), of_b))
            made.back()
        self.assertEqual(len(made), 0)
        refused(self, "Nothing", made.back)


class Refused(unittest.TestCase):

    def test_in_the_order_of_the_document(self):
        made = claimed(a="a", wide="b or b or b or b or b or b")
        refused(self, "NoName", made.sought, "zz", ["yy", "wide"])
        refused(self, "NoName", made.sought, "a", ["wide", "wide", "yy"])
        refused(self, "NoName", made.sought, "wide", ["a", "zz"])
        refused(self, "TooLarge", made.sought, "a", ["wide"])
        refused(self, "TooLarge", made.sought, "wide", [])
        refused(self, "TooLarge", made.sought, "a")
        self.assertEqual(made.sought("a", [])[0], "growth")

    def test_the_first_of_the_list_that_is_not_there(self):
        made = claimed(a="a")
        told = refused(self, "NoName", made.sought, "a", ["a", "xx", "yy"])
        self.assertIn("xx", str(told))
        self.assertNotIn("yy", str(told))

    def test_just_ten_joints_and_one_more(self):
        made = claimed(four="a and b and a and b and a", five="a and b and a and b and a and b", six="b and b")
        made.claim("goal", both(A, leads(B, leads(C, leads(A, leads(B, leads(C, A)))))))
        self.assertEqual(made.sought("goal", ["four"])[0], "paper")
        refused(self, "TooLarge", made.sought, "goal", ["five"])
        refused(self, "TooLarge", made.sought, "goal", ["four", "six"])


class Purity(unittest.TestCase):

    def test_lists_that_are_handed_in_stay_and_are_not_kept(self):
        made = claimed(a="a", rule="a then b", goal="b")
        names = ["rule", "a", "rule"]
        made.sought("goal", names)
        self.assertEqual(names, ["rule", "a", "rule"])
        paper = made.paper("goal")
        names.clear()
        self.assertEqual(made.paper("goal"), paper)

    def test_growths_are_new(self):
        made = claimed(a="a", goal="b or (b then never)")
        expected = seek([A], made.statement("goal"))
        for _ in range(2):
            word, growth = made.sought("goal", ["a"])
            self.assertEqual((word, growth), expected)
            for names, above in growth:
                names.append("zz")
                above.append(7)
            growth.clear()

    def test_asked_again_the_same_is_told(self):
        for givens, goal in sample_rooms.scattered(100, 52):
            made = Hall()
            for k, a in enumerate(givens):
                made.claim(str(k), a)
            made.claim("goal", goal)
            self.assertEqual(made.sought("goal"), made.sought("goal"))

    def test_the_list_of_one_call_is_not_that_of_the_next(self):
        made = claimed(a="a", goal="a")
        self.assertEqual(made.sought("goal", [])[0], "growth")
        self.assertEqual(made.sought("goal")[0], "paper")
        made.claim("later", samples.B)
        made.claim("other", leads(B, B))
        self.assertEqual(made.sought("later")[0], "growth")
        self.assertEqual(made.sought("other")[0], "paper")


if __name__ == "__main__":
    unittest.main()
