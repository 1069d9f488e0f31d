"""Middles: for a way whose facts are on two sides, a statement between the sides.

The facts that a way (search) rests on are parted into two sides, the ones,
told as bits, and all others. Its middle is a tuple (m, to, back): m is the
number of a statement whose letters stand on both sides, the part that is
shown being on that of the others; to is a way to m from the ones; back is a
way to the part from the others and m. Where back does not rest on m, there is
no need of m: it is the trivial one then, which is shown from nothing.

What comes of a fact is on the side of the fact.
"""

from onlybuilt.bits import has, without
from onlybuilt.search import shown_ahead


def _is_needed(middle):
    m, _, back = middle
    return has(back[0], m)


def _have(fact):
    return (1 << fact, "have", fact)


class Between:
    """Finds the middles of the ways of a search, whose parts its rows tell.

    The middles are numbered behind these parts, and its own rows tell both.
    """

    def __init__(self, rows):
        self.rows = list(rows)
        self.known = {row: k for k, row in enumerate(rows)}

    def number(self, row):
        """The number of the statement that the row tells, a new one where it has none yet."""
        if row not in self.known:
            self.known[row] = len(self.rows)
            self.rows.append(row)
        return self.known[row]

    def middle(self, way, ones):
        """The middle of the way."""
        m, to, back = self._found(way, ones)
        return (m, to, back) if has(back[0], m) else self._trivial(back)

    def _trivial(self, back):
        never = self.number(("never",))
        return (self.number(("then", never, never)), (0, "make", never, _have(never)), back)

    def _found(self, way, ones):
        word = way[1]
        if word in ("have", "escape"):
            return self._of_fact(way, way[2], ones)
        if word == "pair":
            return self._pair(way, ones)
        if word in ("left", "right"):
            return self._side(way, ones)
        if word == "make":
            return self._make(way, ones)
        if word == "case":
            return self._case(way, ones)
        return self._with(way, ones)

    def _of_fact(self, way, fact, ones):
        """The middle of a way that rests on one fact alone."""
        return (fact, _have(fact), way) if has(ones, fact) else self._trivial(way)

    def _both(self, one, other):
        """A statement that has both middles, a way to it, and the ways from it to those, in order."""
        if one[0] == other[0] or not _is_needed(other):
            return (one[0], one[1], [])
        if not _is_needed(one):
            return (other[0], other[1], [])
        m = self.number(("and", one[0], other[0]))
        to = (one[1][0] | other[1][0], "pair", one[1], other[1])
        hows = [(one[0], (1 << m, "first", m)), (other[0], (1 << m, "second", m))]
        return (m, to, hows)

    def _pair(self, way, ones):
        one = self.middle(way[2], ones)
        other = self.middle(way[3], ones)
        m, to, hows = self._both(one, other)
        back = (one[2][0] | other[2][0], "pair", one[2], other[2])
        return (m, to, _behind(hows, back))

    def _side(self, way, ones):
        place = 2 if way[1] == "left" else 3
        m, to, back = self.middle(way[place], ones)
        row = list(way)
        row[0] = back[0]
        row[place] = back
        return (m, to, tuple(row))

    def _make(self, way, ones):
        _, word, a, within = way
        m, to, back = self.middle(within, without(ones, a))
        return (m, to, (without(back[0], a), word, a, back))

    def _case(self, way, ones):
        _, _, x, at_left, at_right, g = way
        _, a, b = self.rows[x]
        if has(ones, x):
            one = self.middle(at_left, ones | 1 << a)
            other = self.middle(at_right, ones | 1 << b)
            return self._either(x, one, other, g)
        one = self.middle(at_left, without(ones, a))
        other = self.middle(at_right, without(ones, b))
        m, to, hows = self._both(one, other)
        return (m, to, _behind(hows, self._split(x, one[2], other[2], g)))

    def _split(self, x, at_left, at_right, g):
        """The way to g by the case of x, the ways at its sides being told."""
        _, a, b = self.rows[x]
        rests = 1 << x | without(at_left[0], a) | without(at_right[0], b)
        return (rests, "case", x, at_left, at_right, g)

    def _either(self, x, one, other, g):
        """The middle of a case whose or x is on the side of the ones."""
        for middle in (one, other):
            if not _is_needed(middle):
                return middle
        if one[0] == other[0]:
            return (one[0], self._split(x, one[1], other[1], one[0]), one[2])
        m = self.number(("or", one[0], other[0]))
        at_left = (one[1][0], "left", one[1], other[0])
        at_right = (other[1][0], "right", one[0], other[1])
        return (m, self._split(x, at_left, at_right, m), self._split(m, one[2], other[2], g))

    def _with(self, way, ones):
        _, _, fact, how, behind = way
        x = how[2]
        if has(ones, x):
            other = self.middle(behind, ones | 1 << fact)
            if how[1] == "apply":
                return self._apply_of_ones(fact, how, other, ones)
            return (other[0], shown_ahead(fact, how, other[1]), other[2])
        other = self.middle(behind, without(ones, fact))
        if how[1] != "apply":
            return (other[0], other[1], shown_ahead(fact, how, other[2]))
        one = self.middle(how[3], ones)
        m, to, hows = self._both(one, other)
        return (m, to, _behind(hows, shown_ahead(fact, _applied(x, one[2]), other[2])))

    def _apply_of_ones(self, fact, how, other, ones):
        """The middle of a way on which the fact is shown ahead, by a then on the side of the ones."""
        if not _is_needed(other):
            return other
        # To show the left part of the then is a task of the ones, so that the
        # sides change places in the way to it.
        _, _, x, within = how
        one = self.middle(within, within[0] & ~ones)
        to = shown_ahead(fact, _applied(x, one[2]), other[1])
        if not _is_needed(one):
            return (other[0], to, other[2])
        m = self.number(("then", one[0], other[0]))
        back = shown_ahead(other[0], (1 << m | one[1][0], "apply", m, one[1]), other[2])
        return (m, (without(to[0], one[0]), "make", one[0], to), back)


def _applied(x, way):
    """The way by the then x, the way to its left part being told."""
    return (way[0] | 1 << x, "apply", x, way)


def _behind(hows, way):
    """The way, with the facts shown ahead of it, in order, by the ways hows."""
    for fact, how in reversed(hows):
        way = shown_ahead(fact, how, way)
    return way
