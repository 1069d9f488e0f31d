import unittest

from onlybuilt import errors
from onlybuilt.hall import Hall
from tests import sample_halls, second_hall
from tests.refused import refused
from tests.sample_halls import NAMES, PAPER, SAME, hall, name, resting, same_row
from tests.samples import A, B, both, leads


class Deeds(unittest.TestCase):

    def is_same(self, made, model):
        """Check that the hall keeps just what the model keeps, and tells of it what the document promises."""
        self.assertEqual(len(made), len(model.kept))
        self.assertEqual(made.names(), sorted(model.kept))
        for word, (a, paper) in model.kept.items():
            self.assertEqual(made.statement(word), a)
            self.assertEqual(made.paper(word), paper)
        standing = model.standing()
        self.assertEqual(made.standing(), standing)
        for word in model.kept:
            self.tells_why(made, model, word, word in standing)

    def tells_why(self, made, model, word, stands):
        told, row = made.why(word)
        if stands:
            self.assertEqual(told, "stands")
            self.assertEqual(row[-1], word)
            self.assertEqual(len(row), len(set(row)))
            self.assertEqual(set(row), model.rested(word) | {word})
            for k, other in enumerate(row):
                self.assertIsNotNone(model.kept[other][1])
                self.assertLessEqual(model.borne(other), set(row[:k]))
            return
        self.assertEqual(told, "open")
        self.assertEqual(row[0], word)
        for ahead, following in zip(row, row[1:]):
            self.assertIn(following, model.borne(ahead))
        self.assertEqual(len(row[:-1]), len(set(row[:-1])))
        self.assertTrue(model.kept[row[-1]][1] is None or row[-1] in row[:-1])

    def do(self, made, model, word, handed):
        """Do the deed to both; tell the name of the class with which both refused it, or None."""
        try:
            getattr(model, word)(*handed)
        except second_hall.Refused as refusal:
            kind, road = refusal.args
            told = refused(self, kind, getattr(made, word), *handed)
            if road is not None:
                self.assertEqual(told.road, road)
            return kind
        self.assertIsNone(getattr(made, word)(*handed))
        return None

    def test_scattered_deeds(self):
        met = {}
        for seed in range(60):
            made, model = Hall(), second_hall.Model()
            for word, handed in sample_halls.deeds(seed, 60):
                kind = self.do(made, model, word, handed(model))
                met[(word, kind)] = met.get((word, kind), 0) + 1
                self.is_same(made, model)
        for word, kind in (
            ("claim", None), ("claim", "Taken"), ("show", None), ("show", "NoName"), ("show", "NoGiven"),
            ("show", "Unnamed"), ("show", "NotThat"), ("show", "Unlike"), ("drop", None), ("drop", "NoName"),
            ("drop", "NoPaper"), ("strike", None), ("strike", "NoName"), ("strike", "InUse"), ("back", None),
            ("back", "Nothing"),
        ):
            self.assertGreater(met.get((word, kind), 0), 5, (word, kind))

    def test_all_deeds_taken_back_one_by_one(self):
        for seed in range(60, 90):
            made, model = Hall(), second_hall.Model()
            for word, handed in sample_halls.deeds(seed, 40):
                self.do(made, model, word, handed(model))
            while model.ahead:
                self.do(made, model, "back", ())
                self.is_same(made, model)
            self.assertEqual((len(made), made.names(), made.standing()), (0, [], []))
            refused(self, "Nothing", made.back)

    def test_layered_halls(self):
        for seed in range(200, 400):
            made, model = Hall(), second_hall.Model()
            sample_halls.layered(seed, made, model)
            self.is_same(made, model)

    def test_two_halls_by_turns(self):
        halls = [(Hall(), second_hall.Model()) for _ in range(2)]
        for one, other in zip(sample_halls.deeds(90, 80), sample_halls.deeds(91, 80)):
            for (made, model), (word, handed) in zip(halls, (one, other)):
                self.do(made, model, word, handed(model))
            for made, model in halls:
                self.is_same(made, model)


class Kept(unittest.TestCase):

    def test_none(self):
        made = Hall()
        self.assertEqual((len(made), made.names(), made.standing()), (0, [], []))

    def test_claimed(self):
        made = Hall()
        made.claim("b", A)
        made.claim("a", SAME)
        self.assertEqual((len(made), made.names()), (2, ["a", "b"]))
        self.assertEqual((made.statement("a"), made.statement("b")), (SAME, A))
        self.assertEqual((made.paper("a"), made.paper("b")), (None, None))

    def test_names_are_any_texts(self):
        made = Hall()
        for word in NAMES:
            made.claim(word, SAME)
        self.assertEqual(made.names(), sorted(NAMES))
        for word in NAMES:
            made.show(word, PAPER)
            self.assertEqual(made.paper(word), PAPER)
        self.assertEqual(made.standing(), sorted(NAMES))

    def test_a_paper_in_the_place_of_another_one(self):
        made = hall(a=PAPER)
        made.show("a", resting("a"))
        self.assertEqual(made.paper("a"), resting("a"))
        self.assertEqual(made.standing(), [])
        made.show("a", PAPER)
        self.assertEqual(made.paper("a"), PAPER)

    def test_papers_may_bear_names_without_papers_and_their_own(self):
        made = hall(a=None, b=None)
        made.show("a", name("b"))
        made.show("b", resting("b", "a"))
        self.assertEqual(made.paper("a"), name("b"))

    def test_dropped(self):
        made = hall(a=PAPER, b=name("a"))
        made.drop("a")
        self.assertIsNone(made.paper("a"))
        self.assertEqual(made.statement("a"), SAME)
        self.assertEqual(made.standing(), [])
        refused(self, "NoPaper", made.drop, "a")

    def test_struck(self):
        made = hall(a=PAPER, b=name("a"))
        refused(self, "InUse", made.strike, "a")
        made.strike("b")
        self.assertEqual(made.names(), ["a"])
        made.strike("a")
        self.assertEqual((len(made), made.names()), (0, []))

    def test_its_own_paper_may_bear_what_is_struck(self):
        made = hall(a=None, b=None)
        made.show("a", resting("a", "b"))
        refused(self, "InUse", made.strike, "b")
        made.strike("a")
        made.strike("b")
        self.assertEqual(len(made), 0)

    def test_a_name_that_was_struck_may_be_claimed_with_another_statement(self):
        made = hall(a=PAPER)
        made.strike("a")
        made.claim("a", B)
        self.assertEqual((made.statement("a"), made.paper("a")), (B, None))

    def test_thirty_names_in_a_row(self):
        names = [f"n{k:02}" for k in range(30)]
        made = same_row(names)
        self.assertEqual(made.standing(), names)
        self.assertEqual(made.why("n29"), ("stands", names))
        self.assertEqual(made.why("n12"), ("stands", names[:13]))
        self.assertEqual(made.full("n29"), PAPER)
        made.drop("n00")
        self.assertEqual(made.standing(), [])
        self.assertEqual(made.why("n29"), ("open", names[::-1]))
        self.assertEqual(made.why("n00"), ("open", ["n00"]))
        made.show("n00", name("n29"))
        self.assertEqual(made.standing(), [])
        self.assertEqual(made.why("n29"), ("open", [*names[::-1], "n29"]))
        made.show("n10", PAPER)
        self.assertEqual(made.standing(), names)

    def test_thirty_names_each_of_which_rests_on_all_ahead_of_it(self):
        names = [f"n{k:02}" for k in range(30)]
        made = hall(**dict.fromkeys(names))
        for k, word in enumerate(names):
            made.show(word, resting(*names[:k]))
        self.assertEqual(made.standing(), names)
        self.assertEqual(made.why("n29"), ("stands", names))
        refused(self, "TooLarge", made.full, "n29")
        made.drop("n00")
        self.assertEqual(made.standing(), [])
        word, road = made.why("n29")
        self.assertEqual((word, road[0], road[-1]), ("open", "n29", "n00"))

    def test_arguments_by_their_names(self):
        made = Hall()
        made.claim(name="a", statement=SAME)
        made.show(name="a", paper=PAPER)
        self.assertEqual((made.statement(name="a"), made.paper(name="a")), (SAME, PAPER))
        self.assertEqual(made.why(name="a"), ("stands", ["a"]))
        self.assertEqual(made.full(name="a"), PAPER)
        made.drop(name="a")
        self.assertEqual(made.sought(name="a", names=[])[0], "paper")
        made.strike(name="a")
        made.back()
        self.assertEqual(made.names(), ["a"])


class Stands(unittest.TestCase):

    def test_papers_without_names(self):
        self.assertEqual(hall(a=PAPER, b=None).standing(), ["a"])

    def test_a_name_that_bears_itself(self):
        made = hall(a=None)
        made.show("a", name("a"))
        self.assertEqual(made.standing(), [])
        self.assertEqual(made.why("a"), ("open", ["a", "a"]))

    def test_two_that_bear_one_another(self):
        made = hall(a=None, b=None)
        made.show("a", name("b"))
        made.show("b", name("a"))
        self.assertEqual(made.standing(), [])
        self.assertEqual(made.why("a"), ("open", ["a", "b", "a"]))
        self.assertEqual(made.why("b"), ("open", ["b", "a", "b"]))

    def test_a_road_into_a_round(self):
        made = hall(a=None, b=None, c=None, d=PAPER)
        made.show("a", resting("d", "b"))
        made.show("b", resting("d", "c"))
        made.show("c", resting("b", "d"))
        self.assertEqual(made.standing(), ["d"])
        self.assertEqual(made.why("a"), ("open", ["a", "b", "c", "b"]))
        self.assertEqual(made.why("c"), ("open", ["c", "b", "c"]))

    def test_a_name_that_rests_on_one_without_a_paper(self):
        made = hall(a=None, b=None, c=PAPER)
        made.show("a", resting("c", "b"))
        self.assertEqual(made.standing(), ["c"])
        self.assertEqual(made.why("a"), ("open", ["a", "b"]))
        made.show("b", PAPER)
        self.assertEqual(made.standing(), ["a", "b", "c"])

    def test_the_order_has_just_those_on_which_it_rests(self):
        made = hall(a=PAPER, b=PAPER, c=None, d=None, e=None, f=None)
        made.show("c", resting("a"))
        made.show("d", resting("c", "a"))
        made.show("e", resting("b"))
        self.assertEqual(made.why("d"), ("stands", ["a", "c", "d"]))
        self.assertEqual(made.why("e"), ("stands", ["b", "e"]))
        self.assertEqual(made.why("a"), ("stands", ["a"]))

    def test_the_last_name_of_the_alphabet_first(self):
        made = hall(a=None, m=None, z=PAPER)
        made.show("m", name("z"))
        made.show("a", name("m"))
        self.assertEqual(made.why("a"), ("stands", ["z", "m", "a"]))
        self.assertEqual(made.standing(), ["a", "m", "z"])


class Refused(unittest.TestCase):

    def test_taken(self):
        made = hall(a=PAPER)
        for a in (SAME, B):
            refused(self, "Taken", made.claim, "a", a)
        self.assertEqual((made.statement("a"), made.paper("a")), (SAME, PAPER))

    def test_no_name_ahead_of_all_else(self):
        made = hall(a=PAPER)
        for asked, handed in (
            (made.show, ("b", ("use", 0))), (made.show, ("b", ("name", "c"))), (made.show, ("b", PAPER)),
            (made.drop, ("b",)), (made.strike, ("b",)), (made.statement, ("b",)), (made.paper, ("b",)),
            (made.why, ("b",)), (made.full, ("b",)), (made.sought, ("b",)), (made.sought, ("b", ["c"])),
            (made.sought, ("", [])), (made.statement, ("",)), (made.statement, ("A",)),
        ):
            refused(self, "NoName", asked, *handed)

    def test_papers_that_are_not_as_16_asks(self):
        made = hall(a=PAPER)
        made.claim("b", both(A, B))
        rows = (
            (("use", 0), "NoGiven", ()), (("make", A, ("use", 1)), "NoGiven", (2,)),
            (("make", A, ("use", -1)), "NoGiven", (2,)),
            (("pair", PAPER, ("name", "c")), "Unnamed", (2,)), (("name", "SAME"), "Unnamed", ()),
            (("first", PAPER), "NotThat", ()), (("pair", PAPER, ("second", ("name", "a"))), "NotThat", (2,)),
            (("pair", ("apply", ("name", "a"), ("name", "b")), ("use", 5)), "NotThat", (1,)),
            (("left", ("escape", ("first", ("name", "b")), A), A), "NotThat", (1,)),
        )
        for paper, kind, road in rows:
            with self.subTest(paper=paper):
                self.assertEqual(refused(self, kind, made.show, "a", paper).road, road)
        self.assertEqual(made.paper("a"), PAPER)

    def test_unlike(self):
        made = hall(a=PAPER)
        made.claim("b", B)
        for paper in (("make", B, ("use", 0)), ("name", "b"), ("pair", PAPER, PAPER), ("left", PAPER, A)):
            refused(self, "Unlike", made.show, "a", paper)
        self.assertEqual(made.paper("a"), PAPER)

    def test_the_book_has_the_name_itself_and_names_without_papers(self):
        made = hall(a=None)
        made.claim("b", leads(SAME, SAME))
        made.show("a", ("apply", name("b"), name("a")))
        self.assertEqual(made.paper("a"), ("apply", name("b"), name("a")))

    def test_what_is_refused_is_no_deed_and_changes_nothing(self):
        made = hall(a=PAPER, b=name("a"))
        for asked, handed in (
            (made.claim, ("a", B)), (made.show, ("a", ("use", 0))), (made.show, ("a", name("c"))),
            (made.show, ("c", PAPER)), (made.drop, ("c",)), (made.strike, ("a",)), (made.full, ("c",)),
            (made.sought, ("a", ["c"])),
        ):
            with self.assertRaises(errors.OnlyError):
                asked(*handed)
        # The last deed is still the laying of b's paper.
        made.back()
        self.assertEqual((made.paper("a"), made.paper("b")), (PAPER, None))

    def test_what_is_only_asked_is_no_deed(self):
        made = hall(a=PAPER, b=name("a"))
        made.names(), made.standing(), made.statement("a"), made.paper("a"), len(made), made.why("b"), made.full("b")
        made.back()
        self.assertEqual((made.paper("a"), made.paper("b")), (PAPER, None))

    def test_nothing(self):
        made = Hall()
        refused(self, "Nothing", made.back)
        made.claim("a", A)
        made.back()
        refused(self, "Nothing", made.back)
        self.assertEqual(made.names(), [])
        made.claim("a", B)
        self.assertEqual(made.statement("a"), B)


class Purity(unittest.TestCase):

    def test_lists_that_are_told_are_new(self):
        made = hall(a=PAPER, b=name("a"), c=None)
        for asked in (made.names, made.standing, lambda: made.why("b")[1], lambda: made.why("c")[1]):
            expected = list(asked())
            told = asked()
            told.append("zz")
            told.reverse()
            self.assertEqual(asked(), expected)

    def test_two_halls_have_nothing_in_common(self):
        one, other = hall(a=PAPER), Hall()
        self.assertEqual((len(other), other.names()), (0, []))
        refused(self, "NoName", other.statement, "a")
        refused(self, "Nothing", other.back)
        other.claim("a", B)
        self.assertEqual((one.statement("a"), other.statement("a")), (SAME, B))
        one.drop("a")
        other.back()
        self.assertIsNone(one.paper("a"))


if __name__ == "__main__":
    unittest.main()
