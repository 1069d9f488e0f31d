import unittest
from random import Random

from onlybuilt.doubles import doubled, negative, settled
from onlybuilt.growths import seen
from onlybuilt.middles import middle
from onlybuilt.papers import shows
from onlybuilt.reader import read
from onlybuilt.runs import run
from onlybuilt.seek import seek
from onlybuilt.shifts import deep
from onlybuilt.statements import same
from onlybuilt.tables import true_at
from onlybuilt.words import told
from tests import sample_growths, sample_papers, samples, second, second_papers, second_steps, second_tables
from tests.samples import A, B, C, NEVER, both, either, leads


def denied(a):
    return leads(a, NEVER)


def chain(word, many, at_left):
    """A statement nested so deep by one word, on one side."""
    a = A
    for _ in range(many):
        a = (word, a, B) if at_left else (word, B, a)
    return a


def chains(many):
    return [chain(word, many, at_left) for word in samples.WORDS for at_left in (True, False)]


class Doubled(unittest.TestCase):

    def test_examples(self):
        self.assertEqual(doubled(A), ("then", ("then", A, ("never",)), ("never",)))
        self.assertEqual(doubled(NEVER), denied(denied(NEVER)))
        self.assertEqual(told(doubled(read("a or b"))), "(a or b then never) then never")

    def test_as_told_a_second_time(self):
        for a in samples.every():
            self.assertEqual(doubled(a), second_tables.doubled(a))
            self.assertEqual(doubled(doubled(a)), second_tables.doubled(second_tables.doubled(a)))


class Negative(unittest.TestCase):

    def test_each_form(self):
        n, k = denied(denied(A)), denied(denied(B))
        self.assertEqual(negative(A), n)
        self.assertEqual(negative(NEVER), NEVER)
        self.assertEqual(negative(both(A, B)), both(n, k))
        self.assertEqual(negative(leads(A, B)), leads(n, k))
        self.assertEqual(negative(either(A, B)), denied(both(denied(n), denied(k))))
        self.assertEqual(negative(either(NEVER, A)), denied(both(denied(NEVER), denied(n))))
        self.assertEqual(negative(leads(A, NEVER)), leads(n, NEVER))

    def test_as_told_a_second_time(self):
        for a in samples.every():
            n = second_tables.negative(a)
            self.assertEqual(negative(a), n)
            self.assertEqual(negative(n), second_tables.negative(n))

    def test_true_at_the_same_rows(self):
        for a in [*samples.small(), *samples.middling()[:120]]:
            n = negative(a)
            for row in second_tables.rows([a])[:64]:
                self.assertEqual(true_at(row, n), second_tables.true_at(row, a))

    def test_it_holds_where_it_is_not_barred(self):
        # A statement that is settled holds where it holds doubled.
        for a in samples.small()[::7]:
            for growth in sample_growths.NAMED:
                self.assertEqual(seen(growth, negative(a)), seen(growth, doubled(negative(a))))

    def test_deeper_than_calls_may_be(self):
        a = B
        for _ in range(3000):
            a = leads(A, a)
        n = negative(a)
        for _ in range(3000):
            self.assertEqual(n[:2], ("then", doubled(A)))
            n = n[2]
        self.assertEqual(n, doubled(B))


class Settled(unittest.TestCase):

    def is_settled(self, a, most=200):
        paper = settled(a)
        n = negative(a)
        self.assertEqual(shows([], paper), leads(doubled(n), n))
        self.assertEqual(second_steps.names(paper), [])
        self.assertLessEqual(deep(paper), most)
        return paper

    def test_each_form(self):
        for a in (A, NEVER, both(A, B), either(A, B), leads(A, B), both(A, A), leads(A, NEVER)):
            paper = self.is_settled(a, 40)
            n = second_tables.negative(a)
            self.assertEqual(second_papers.shows({}, [], paper), leads(second_tables.doubled(n), n))

    def test_small_and_middling(self):
        for a in [*samples.small(), *samples.middling()]:
            self.is_settled(a)

    def test_nested_forty_deep(self):
        for a in [*samples.deepest(), *chains(40)]:
            self.is_settled(a)

    def test_long_chains(self):
        # As a text that is read may be nested a hundred deep.
        for word in samples.WORDS:
            text = f" {word} ".join(["a"] * 100 + ["b"])
            a = read(text)
            self.assertEqual(second.nested(a), 100)
            self.is_settled(a, 80)
        for a in chains(100):
            self.is_settled(a, 80)

    def test_chains_of_chains(self):
        for one in samples.WORDS:
            for other in samples.WORDS:
                part = chain(one, 9, False)
                a = part
                for _ in range(9):
                    a = (other, a, part)
                self.assertEqual(second.joints(a), 99)
                self.is_settled(a)

    def test_evenly_and_unevenly_split(self):
        def split(many, share):
            if many < 2:
                return A
            at_left = max(1, int(many * share))
            return both(split(at_left, share), split(many - at_left, share))

        for share in (0.03, 0.1, 0.25, 0.4, 0.5):
            self.is_settled(split(100, share), 120)

    def test_what_was_told_may_be_handed_in(self):
        for a in [*samples.deepest(), *chains(40)]:
            self.is_settled(negative(a))
            self.is_settled(negative(negative(a)))
        for _, paper, a in sample_papers.deepest():
            self.is_settled(a)
        # A paper of a depth of 100 shows it.
        makes = ("use", 0)
        for _ in range(99):
            makes = ("make", chain("and", 40, False), makes)
        self.is_settled(shows([A], makes))
        for ones, others, goal in (([both(A, B)], [leads(B, C)], C), ([leads(A, B), A], [], either(B, C))):
            self.is_settled(middle(ones, others, goal)[1])

    def test_told_statements_of_any_depth(self):
        for word in ("and", "then"):
            a = chain(word, 700, False)
            paper = settled(a)
            self.assertLessEqual(deep(paper), 200)
            n = negative(a)
            self.assertTrue(same(shows([], paper), leads(doubled(n), n)))

    def test_papers_come_to_rest(self):
        for a in samples.small()[::5]:
            paper = settled(a)
            word, after, _ = run(0, paper, 1000, 2000)
            self.assertEqual((word, after[0]), ("rest", "make"))
            self.assertEqual(shows([], after), shows([], paper))

    def test_statements_that_are_no_negatives_are_not_settled(self):
        self.assertEqual(seek([], leads(doubled(A), A))[0], "growth")
        self.assertEqual(seek([], leads(doubled(either(A, B)), either(A, B)))[0], "growth")
        self.assertEqual(seek([doubled(negative(A))], negative(A))[0], "paper")

    def test_asked_again_the_same_is_told(self):
        pick = Random(40)
        for a in pick.sample(samples.every(), 60):
            self.assertEqual(settled(a), settled(a))
            self.assertEqual(negative(a), negative(a))


if __name__ == "__main__":
    unittest.main()
