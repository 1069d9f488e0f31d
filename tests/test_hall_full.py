"""The full papers of a hall."""

import unittest

from onlybuilt.hall import Hall
from onlybuilt.papers import shows
from onlybuilt.shifts import deep, moved, size
from tests import sample_halls, sample_papers, second_hall, second_papers, second_steps
from tests.refused import refused
from tests.sample_halls import PAPER, SAME, hall, name, resting, same_row
from tests.samples import A, B, E, both, either, leads


def sized(many):
    """A paper of just that size, 6 at least, that shows SAME from no givens, and is not deep."""
    within, _ = sample_papers.of_size(many - 5)
    return ("second", ("pair", ("make", E, within), PAPER))


def over(paper, many):
    """The paper with so many applications round it, each of which makes it deeper by one."""
    for _ in range(many):
        paper = ("apply", ("make", SAME, ("use", 0)), paper)
    return paper


class Full(unittest.TestCase):

    def is_told(self, made, word):
        paper = made.full(word)
        self.assertEqual(second_steps.names(paper), [])
        self.assertEqual(shows([], paper), made.statement(word))
        self.assertEqual(second_papers.shows({}, [], paper), made.statement(word))
        self.assertLessEqual(size(paper), 2000)
        self.assertLessEqual(deep(paper), 200)
        return paper

    def test_papers_without_names_stay_as_they_are(self):
        made = hall(a=PAPER, b=sized(50))
        self.assertEqual(self.is_told(made, "a"), PAPER)
        self.assertEqual(self.is_told(made, "b"), sized(50))

    def test_names_give_their_places_to_full_papers(self):
        made = hall(a=PAPER, b=None, c=None)
        made.show("b", ("first", ("pair", name("a"), name("a"))))
        made.show("c", ("second", ("pair", name("b"), name("a"))))
        full = ("first", ("pair", PAPER, PAPER))
        self.assertEqual(self.is_told(made, "b"), full)
        self.assertEqual(self.is_told(made, "c"), ("second", ("pair", full, PAPER)))

    def test_moved_by_what_is_assumed_round_the_place(self):
        made = hall(a=PAPER)
        made.claim("b", leads(B, both(SAME, leads(either(B, B), SAME))))
        case = ("case", ("use", 1), name("a"), ("first", ("pair", name("a"), ("use", 2))), SAME)
        made.show("b", ("make", B, ("pair", name("a"), ("make", either(B, B), case))))
        one, three = ("make", A, ("use", 1)), ("make", A, ("use", 3))
        case = ("case", ("use", 1), three, ("first", ("pair", three, ("use", 2))), SAME)
        self.assertEqual(
            self.is_told(made, "b"), ("make", B, ("pair", one, ("make", either(B, B), case)))
        )
        self.assertEqual(moved(PAPER, 0, 3), three)

    def test_moved_again_and_again(self):
        made = hall(a=PAPER)
        a = SAME
        for ahead, word in zip("abcdefgh", "bcdefghi"):
            a = leads(B, a)
            made.claim(word, a)
            made.show(word, ("make", B, name(ahead)))
        expected = ("make", A, ("use", 8))
        for _ in range(8):
            expected = ("make", B, expected)
        self.assertEqual(self.is_told(made, "i"), expected)

    def test_nothing_changes(self):
        made = hall(a=PAPER, b=resting("a"))
        made.full("b")
        self.assertEqual(made.paper("b"), resting("a"))
        self.assertEqual(made.full("b"), made.full("b"))
        made.back()
        self.assertIsNone(made.paper("b"))

    def as_the_model(self, made, model):
        """Compare all full papers with those of the model; tell how many of them rest on how many names."""
        found = []
        for word in model.kept:
            try:
                expected = model.full(word)
            except second_hall.Refused as refusal:
                refused(self, refusal.args[0], made.full, word)
                found.append(refusal.args[0])
            else:
                self.assertEqual(self.is_told(made, word), expected)
                found.append(len(model.rested(word)))
        return found

    def test_scattered_halls(self):
        found = []
        for seed in range(100, 300):
            made, model = Hall(), second_hall.Model()
            for word, handed in sample_halls.deeds(seed, 50):
                told = handed(model)
                try:
                    getattr(model, word)(*told)
                except second_hall.Refused:
                    continue
                getattr(made, word)(*told)
            found += self.as_the_model(made, model)
        self.assertGreater(found.count("NotStanding"), 100)

    def test_layered_halls(self):
        found = []
        for seed in range(200):
            made, model = Hall(), second_hall.Model()
            sample_halls.layered(seed, made, model)
            found += self.as_the_model(made, model)
        self.assertGreater(found.count("NotStanding"), 100)
        self.assertGreater(sum(many in (4, 5, 6, 7, 8, 9) for many in found), 50)


class TooLarge(unittest.TestCase):

    def test_just_2000_and_2001_parts(self):
        for many, word in ((1999, None), (2000, None), (2001, "TooLarge"), (2002, "TooLarge")):
            made = hall(a=sized(900), b=None, c=sized(many))
            made.show("b", ("second", ("pair", name("a"), sized(many - 902))))
            for text in ("b", "c"):
                if word is None:
                    self.assertEqual(size(made.full(text)), many)
                else:
                    refused(self, word, made.full, text)

    def test_a_depth_of_just_200_and_201(self):
        for depth, word in ((199, None), (200, None), (201, "TooLarge"), (202, "TooLarge")):
            made = hall(a=over(PAPER, 98), b=None, c=over(PAPER, depth - 2))
            self.assertEqual(deep(made.paper("a")), 100)
            made.show("b", over(name("a"), depth - 100))
            for text in ("b", "c"):
                if word is None:
                    self.assertEqual(deep(made.full(text)), depth)
                else:
                    refused(self, word, made.full, text)

    def test_the_deepest_name_counts(self):
        made = hall(a=over(PAPER, 98), b=PAPER, c=None)
        made.show("c", over(("first", ("pair", name("a"), name("b"))), 98))
        self.assertEqual(deep(made.full("c")), 200)
        made.show("c", over(("second", ("pair", name("a"), name("b"))), 99))
        refused(self, "TooLarge", made.full, "c")
        made.show("c", over(("second", ("pair", name("b"), name("b"))), 99))
        self.assertEqual(deep(made.full("c")), 103)

    def test_far_too_large(self):
        # Each name bears the one ahead of it four times.
        names = [f"n{k:02}" for k in range(30)]
        made = same_row(names)
        for ahead, word in zip(names, names[1:]):
            made.show(word, ("apply", ("make", both(SAME, SAME), ("first", ("use", 0))),
                             ("pair", resting(ahead, ahead), resting(ahead, ahead))))
        self.assertEqual(made.why("n29"), ("stands", names))
        refused(self, "TooLarge", made.full, "n29")
        refused(self, "TooLarge", made.full, "n05")
        self.assertLessEqual(size(made.full("n03")), 2000)

    def test_what_is_borne_may_be_too_large_where_it_is_not_asked_for(self):
        made = hall(a=sized(2001), b=None)
        made.show("b", resting("a"))
        refused(self, "TooLarge", made.full, "b")
        made.show("b", PAPER)
        self.assertEqual(made.full("b"), PAPER)

    def test_in_the_order_of_the_document(self):
        made = hall(a=sized(2001), b=None, c=None)
        made.show("b", ("first", ("pair", name("a"), name("c"))))
        refused(self, "NotStanding", made.full, "b")
        refused(self, "NotStanding", made.full, "c")
        refused(self, "NoName", made.full, "d")
        made.show("c", name("b"))
        refused(self, "NotStanding", made.full, "b")
        made.show("c", PAPER)
        refused(self, "TooLarge", made.full, "b")


if __name__ == "__main__":
    unittest.main()
