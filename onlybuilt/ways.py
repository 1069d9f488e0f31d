"""Ways of a search written as papers."""

from onlybuilt.forms import papers_within
from onlybuilt.statements import told_by


def uses(places):
    """For the place of each of some givens its use; of givens that are the same that of the first one."""
    had = {}
    for k, place in enumerate(places):
        had.setdefault(place, ("use", k))
    return had


def _assumes(paper):
    """Whether something is assumed within the paper."""
    return any([p[0] in ("make", "case") for p in papers_within(paper)])


class Writer:
    """Writes the ways of a search, whose parts its rows tell."""

    def __init__(self, rows):
        self.rows = rows
        self.told = told_by(rows)

    def written(self, way, had, many):
        """The paper of the way, where so many are given, and had tells the papers of its facts."""
        word = way[1]
        if word == "have":
            return had[way[2]]
        if word in ("first", "second"):
            return (word, had[way[2]])
        if word == "escape":
            return (word, had[way[2]], self.told[way[3]])
        if word == "pair":
            return (word, self.written(way[2], had, many), self.written(way[3], had, many))
        if word == "left":
            return (word, self.written(way[2], had, many), self.told[way[3]])
        if word == "right":
            return (word, self.told[way[2]], self.written(way[3], had, many))
        if word == "make":
            return self._make(way[2], way[3], had, many)
        if word == "apply":
            return (word, had[way[2]], self.written(way[3], had, many))
        if word == "case":
            return self._case(way, had, many)
        return self._with(way, had, many)

    def _within(self, a, way, had, many):
        """The paper of the way, where the part a is assumed for it."""
        return self.written(way, {**had, a: ("use", many)}, many + 1)

    def _make(self, a, way, had, many):
        return ("make", self.told[a], self._within(a, way, had, many))

    def _case(self, way, had, many):
        _, word, x, at_left, at_right, g = way
        _, a, b = self.rows[x]
        p = self._within(a, at_left, had, many)
        q = self._within(b, at_right, had, many)
        return (word, had[x], p, q, self.told[g])

    def _with(self, way, had, many):
        _, _, fact, how, behind = way
        p = self.written(how, had, many)
        if not _assumes(p):
            # It may stand at any place, however many are assumed there.
            return self.written(behind, {**had, fact: p}, many)
        return ("apply", self._make(fact, behind, had, many), p)
