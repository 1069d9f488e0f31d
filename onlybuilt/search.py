"""The search for how a statement is shown from others, part by part.

All statements that are looked at are parts of those handed in, and are told
by their places in the list of parts (numbered). Some of them, the facts that
are had at a place, are told as bits.

A way to show a part from facts is a tuple: the facts that it rests on, a
word, and what that word needs, g being the part that is shown:
- (rests, "have", g): it is one of the facts;
- (rests, "pair", way, way), (rests, "left", way, b), (rests, "right", a, way),
  (rests, "make", a, way), (rests, "first", x), (rests, "second", x),
  (rests, "apply", x, way), (rests, "escape", x, g): as a paper of that word,
  x being a fact; the way of a make has a among its facts;
- (rests, "case", x, way, way, g): x is an or among the facts, the ways have
  its left and its right part among theirs;
- (rests, "with", fact, how, way): the fact is shown by the way how, and is
  among the facts of the other way.
"""

from onlybuilt.bits import has, without
from onlybuilt.statements import numbered


def shown_ahead(fact, how, way):
    """The way, with the fact shown ahead of it where the way rests on that."""
    if not has(way[0], fact):
        return way
    return (how[0] | without(way[0], fact), "with", fact, how, way)


class Search:
    """All ways that are found from some facts to some part of the statements."""

    def __init__(self, statements):
        self.rows, self.places = numbered(statements)
        # What was found once is not looked for again.
        self.ways = {}
        self.wider = {}

    def has_never(self, facts):
        """The place of never, where it is one of the facts, else None."""
        for k, row in enumerate(self.rows):
            if row[0] == "never" and has(facts, k):
                return k
        return None

    def wide(self, facts):
        """The facts with all that follow without a case, and the ways to those, in order."""
        if facts not in self.wider:
            self.wider[facts] = self._widened(facts)
        return self.wider[facts]

    def _widened(self, facts):
        hows = []
        known = -1
        while known != facts:
            known = facts
            for x in range(len(self.rows)):
                for fact, how in self._right_behind(facts, x):
                    facts = facts | 1 << fact
                    hows.append((fact, how))
        return facts, hows

    def _right_behind(self, facts, x):
        """The facts that are new, and follow from the one of number x at once, with the ways to them."""
        row = self.rows[x]
        if not has(facts, x) or row[0] not in ("and", "then"):
            return []
        word, left, right = row
        if word == "and":
            found = [] if has(facts, left) else [(left, (1 << x, "first", x))]
            if not has(facts, right) and right != left:
                found.append((right, (1 << x, "second", x)))
            return found
        way = None if has(facts, right) else self.straight(facts, left, False)
        return [] if way is None else [(right, (way[0] | 1 << x, "apply", x, way))]

    def way(self, facts, g):
        """A way from the facts to the part g, or None where there is none."""
        if (facts, g) not in self.ways:
            wide, hows = self.wide(facts)
            way = self.straight(wide, g, True)
            if way is not None:
                for fact, how in reversed(hows):
                    way = shown_ahead(fact, how, way)
            self.ways[(facts, g)] = way
        return self.ways[(facts, g)]

    def straight(self, facts, g, cases):
        """A way from the facts, with none shown ahead of it, or None; without cases where these are not allowed."""
        if has(facts, g):
            return (1 << g, "have", g)
        never = self.has_never(facts)
        if never is not None:
            return (1 << never, "escape", never, g)
        row = self.rows[g]
        if row[0] == "and":
            return self._pair(facts, row, cases)
        if row[0] == "then":
            return self._make(facts, row, cases)
        x = self.unsplit(facts) if cases else None
        if x is not None:
            return self._case(facts, x, g)
        if row[0] == "or":
            return self._side(facts, row, cases)
        return None

    def _pair(self, facts, row, cases):
        at_left = self.straight(facts, row[1], cases)
        at_right = None if at_left is None else self.straight(facts, row[2], cases)
        return None if at_right is None else (at_left[0] | at_right[0], "pair", at_left, at_right)

    def _make(self, facts, row, cases):
        _, a, b = row
        way = self.straight(facts, b, cases) if has(facts, a) else self.way(facts | 1 << a, b)
        return None if way is None else (without(way[0], a), "make", a, way)

    def _side(self, facts, row, cases):
        _, a, b = row
        way = self.straight(facts, a, cases)
        if way is not None:
            return (way[0], "left", way, b)
        way = self.straight(facts, b, cases)
        return None if way is None else (way[0], "right", a, way)

    def unsplit(self, facts):
        """The place of an or among the facts neither part of which is one of them, or None."""
        for x, row in enumerate(self.rows):
            if row[0] == "or" and has(facts, x) and not has(facts, row[1]) and not has(facts, row[2]):
                return x
        return None

    def _case(self, facts, x, g):
        _, a, b = self.rows[x]
        at_left = self.way(facts | 1 << a, g)
        # Where a part is not used, there is no need of the case.
        if at_left is None or not has(at_left[0], a):
            return at_left
        at_right = self.way(facts | 1 << b, g)
        if at_right is None or not has(at_right[0], b):
            return at_right
        rests = 1 << x | without(at_left[0], a) | without(at_right[0], b)
        return (rests, "case", x, at_left, at_right, g)
