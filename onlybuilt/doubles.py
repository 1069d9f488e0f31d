"""Statements doubled, their negatives, and the papers that settle these.

A statement n is settled where n doubled leads to n. Of a negative that is so
because it ends in nevers: each and of it in both its parts, each then in its
right part. The papers that tell so are put together from both halves of the
way down to a never, and not step behind step, as else they would be as deep
as the statement is nested.
"""

from onlybuilt.statements import rows_of, told_by

NEVER = ("never",)


def _denied(a):
    """That a leads to never."""
    return ("then", a, NEVER)


def doubled(a):
    """The statement a doubled."""
    return _denied(_denied(a))


def _negative(row, found):
    """The negative of the part that the row tells, those of its own parts being found."""
    word = row[0]
    if word == "letter":
        return doubled(row)
    if word == "never":
        return row
    n, k = found[row[1]], found[row[2]]
    if word == "or":
        return _denied(("and", _denied(n), _denied(k)))
    return (word, n, k)


def negative(a):
    """The negative of a: true at the same rows, and settled."""
    found = []
    for row in rows_of([a]):
        found.append(_negative(row, found))
    return found[-1]


def _settles(n):
    """What a paper shows that settles n."""
    return ("then", doubled(n), n)


def _child(n, child, many, settles, u, taken):
    """A paper that shows a child of n, where so many are given.

    The paper settles shows that the child is settled, u shows n doubled, and
    taken shows the child where n is given with the number many + 1.
    """
    denies = ("make", n, ("apply", ("use", many), taken))
    return ("apply", settles, ("make", _denied(child), ("apply", u, denies)))


class Settler:
    """Settles the parts of a negative, which its rows tell."""

    def __init__(self, rows):
        self.rows = rows
        self.told = told_by(rows)
        # Of how many parts each one is made, left parts of thens aside.
        self.sizes = []
        for k in range(len(rows)):
            self.sizes.append(1 + sum([self.sizes[child] for child in self._children(k)]))

    def _children(self, k):
        """The parts that are settled where the part of number k is."""
        row = self.rows[k]
        if row[0] == "and":
            return row[1:]
        return row[2:] if row[0] == "then" else ()

    def paper(self, k, many):
        """A paper that settles the part of number k, where so many are given."""
        way = [k]
        while self._children(way[-1]):
            way.append(max(self._children(way[-1]), key=lambda child: self.sizes[child]))
        never = ("apply", ("use", many), ("make", NEVER, ("use", many + 1)))
        settled_never = ("make", doubled(NEVER), never)
        if len(way) == 1:
            return settled_never
        return ("apply", self._links(way, 0, len(way) - 1, many), settled_never)

    def _links(self, way, high, low, many):
        """A paper that shows that the part at the place high of the way is settled where that at low is."""
        h = ("use", many)
        if low - high == 1:
            within = self._link(way[high], way[low], h, many + 1)
        else:
            half = self._half(way, high, low)
            upper = self._links(way, high, half, many + 1)
            within = ("apply", upper, ("apply", self._links(way, half, low, many + 1), h))
        return ("make", _settles(self.told[way[low]]), within)

    def _half(self, way, high, low):
        """A place between both places, with about half of what lies between on either side."""
        whole = self.sizes[way[high]] + self.sizes[way[low]]
        for place in range(high + 1, low - 1):
            if 2 * self.sizes[way[place]] <= whole:
                return place
        return low - 1

    def _link(self, k, child, h, many):
        """A paper that settles the part of number k, h showing that the child is settled."""
        n = self.told[k]
        u = ("use", many)
        if n[0] == "then":
            w, x = ("use", many + 3), ("use", many + 1)
            within = ("make", n[1], _child(n, n[2], many + 2, h, u, ("apply", w, x)))
        else:
            w = ("use", many + 2)
            papers = []
            for word, place in (("first", 1), ("second", 2)):
                other = self.rows[k][place]
                settles = h if other == child else self.paper(other, many + 1)
                papers.append(_child(n, n[place], many + 1, settles, u, (word, w)))
            within = ("pair", *papers)
        return ("make", doubled(n), within)


def settled(a):
    """A paper that shows, from no givens, that the negative of a doubled leads to the negative."""
    rows = rows_of([negative(a)])
    return Settler(rows).paper(len(rows) - 1, 0)
