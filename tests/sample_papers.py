"""Papers that the tests ask about."""

from random import Random

from tests import samples, second_papers
from tests.samples import A, B, C, D, E, NEVER, both, either, leads

LEAVES = (A, B, C, NEVER)

BOOK = {
    "a": leads(A, B), "lemma": either(C, both(A, B)), "": B, "two words": both(B, leads(B, C)),
    "never": NEVER, "Name": A,
}

GIVENS = (A, leads(A, B), either(A, C), both(B, either(B, D)), leads(B, NEVER), leads(leads(A, B), D))


class Grower:
    """Papers that show something, put together as pick, a Random, says."""

    def __init__(self, seed, book):
        self.pick = Random(seed)
        self.book = book

    def some(self):
        return samples.scattered(self.pick, self.pick.randrange(3), LEAVES)

    def grown(self, given, many):
        """A paper of about so many papers, and what it shows."""
        if many <= 1:
            return self.leaf(given, many)
        words = ["pair", "first", "second", "left", "right", "case", "make", "make", "apply", "apply"]
        if NEVER in given:
            words += ["escape"] * 3
        return getattr(self, self.pick.choice(words))(given, many)

    def leaf(self, given, many):
        if given and (not self.book or self.pick.randrange(4)):
            k = self.pick.randrange(len(given))
            return ("use", k), given[k]
        if self.book:
            name = self.pick.choice(sorted(self.book))
            return ("name", name), self.book[name]
        a = self.some()
        return ("make", a, ("use", len(given))), leads(a, a)

    def pair(self, given, many):
        p, a = self.grown(given, many // 2)
        q, b = self.grown(given, many - 1 - many // 2)
        return ("pair", p, q), both(a, b)

    def of_and(self, given, many):
        known = [k for k, a in enumerate(given) if a[0] == "and"]
        if known and self.pick.randrange(2):
            k = self.pick.choice(known)
            return ("use", k), given[k]
        p, a = self.grown(given, many)
        return (p, a) if a[0] == "and" else self.pair(given, many)

    def first(self, given, many):
        p, a = self.of_and(given, many - 1)
        return ("first", p), a[1]

    def second(self, given, many):
        p, a = self.of_and(given, many - 1)
        return ("second", p), a[2]

    def left(self, given, many):
        p, a = self.grown(given, many - 1)
        b = self.some()
        return ("left", p, b), either(a, b)

    def right(self, given, many):
        p, b = self.grown(given, many - 1)
        a = self.some()
        return ("right", a, p), either(a, b)

    def of_or(self, given, many):
        known = [k for k, a in enumerate(given) if a[0] == "or"]
        if known and self.pick.randrange(2):
            k = self.pick.choice(known)
            return ("use", k), given[k]
        return self.pick.choice((self.left, self.right))(given, many)

    def case(self, given, many):
        p, a = self.of_or(given, many // 3)
        if self.pick.randrange(4) == 0:
            # Both show the or itself.
            return ("case", p, ("left", ("use", len(given)), a[2]), ("right", a[1], ("use", len(given))), a), a
        q, b = self.grown([*given, a[1]], many // 3)
        r, c = self.grown([*given, a[2]], many // 3)
        if b == c:
            return ("case", p, q, r, b), b
        return ("case", p, ("left", q, c), ("right", b, r), either(b, c)), either(b, c)

    def make(self, given, many):
        a = self.some()
        p, b = self.grown([*given, a], many - 1)
        return ("make", a, p), leads(a, b)

    def apply(self, given, many):
        for k, a in enumerate(given):
            if a[0] == "then" and a[1] in given and self.pick.randrange(2):
                return ("apply", ("use", k), ("use", given.index(a[1]))), a[2]
        q, a = self.grown(given, many // 2)
        p, b = self.grown([*given, a], many // 2)
        return ("apply", ("make", a, p), q), b

    def escape(self, given, many):
        c = self.some()
        return ("escape", ("use", given.index(NEVER)), c), c


def papers(book=None, many=300, most=25):
    """Rows of givens, a paper that shows something from them by the book, and what that is."""
    found = []
    for seed in range(many):
        grower = Grower(seed, book or {})
        givens = grower.pick.sample(GIVENS, grower.pick.randrange(len(GIVENS) + 1))
        if seed % 5 == 0:
            givens.append(NEVER)
        paper, a = grower.grown(givens, grower.pick.randrange(1, most))
        found.append((givens, paper, a))
    return found


def spoiled(pick, paper):
    """The paper with one, two or three of the papers within it made others, which may be wrong."""
    for _ in range(pick.randrange(1, 4)):
        road = pick.choice(second_papers.roads(paper))
        there = second_papers.at_road(paper, road)
        other = pick.choice((
            ("use", pick.randrange(-2, 9)), ("use", 10 ** 30), ("name", pick.choice(("a", "b", "Name"))),
            ("first", there), ("second", there), ("apply", there, there), ("escape", there, A),
            ("case", there, there, ("use", 0), A), ("pair", there, there), ("make", B, there),
        ))
        paper = second_papers.with_at(paper, road, other)
    return paper


def deepest():
    """Papers of a depth of 100, with the givens from which, and what, they show."""
    shown = leads(A, A)
    plain = ("make", A, ("use", 1))
    rows = []
    makes, made = ("use", 0), A
    for k in range(99):
        makes, made = ("make", LEAVES[k % 4], makes), leads(LEAVES[k % 4], made)
    rows.append(([A], makes, made))
    halves = plain
    for k in range(49):
        halves = ("first", ("pair", halves, ("use", 0))) if k % 2 else ("second", ("pair", ("use", 0), halves))
    rows.append(([A], halves, shown))
    cases = ("use", 0)
    for k in range(99):
        # The or in the left part is assumed here again and again.
        cases = ("case", ("use", 0), cases, ("use", 0), either(A, A)) if k % 2 else (
            "case", ("use", 0), ("use", 0), cases, either(A, A))
    rows.append(([either(A, A)], cases, either(A, A)))
    applied = ("use", 0)
    for k in range(99):
        applied = ("apply", ("use", 1), applied)
    rows.append(([A, leads(A, A)], applied, A))
    escaped = ("use", 0)
    for k in range(99):
        escaped = ("escape", escaped, NEVER)
    rows.append(([NEVER], escaped, NEVER))
    return rows


def of_size(many):
    """A paper of just that size, with E given, and what it shows."""
    if many == 1:
        return ("use", 0), E
    if many % 2 == 0:
        p, a = of_size(many - 1)
        return ("left", p, D), either(a, D)
    p, a = of_size(many // 2)
    q, b = of_size(many - 1 - many // 2)
    return ("pair", p, q), both(a, b)
