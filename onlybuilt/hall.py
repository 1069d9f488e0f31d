"""A hall: statements under names, whose papers rest on one another."""

from onlybuilt.bounds import look_at_measures
from onlybuilt.errors import InUse, NoName, NoPaper, NotStanding, Nothing, Taken, Unlike
from onlybuilt.fulls import full_measures, full_paper, named
from onlybuilt.papers import shows_by
from onlybuilt.rests import borne, rested_on, road_from, standing_in_order
from onlybuilt.seek import seek
from onlybuilt.statements import same


class Hall:
    """Keeps names, each with a statement, and with a paper or None."""

    def __init__(self):
        self._kept = {}
        # For each deed, the last one behind, a name and what was kept under it ahead of the deed, or None.
        self._deeds = []

    def _entry(self, name):
        """The statement and the paper of the name."""
        if name not in self._kept:
            raise NoName(f"the hall keeps no name {name}")
        return self._kept[name]

    def _set(self, name, entry):
        if entry is None:
            del self._kept[name]
        else:
            self._kept[name] = entry

    def _do(self, name, entry):
        """A deed: keep the entry, or nothing where it is None, under the name."""
        self._deeds.append((name, self._kept.get(name)))
        self._set(name, entry)

    def _statements(self):
        """The book of all names and their statements."""
        return {name: a for name, (a, _) in self._kept.items()}

    def _bears(self):
        """For each name the names that its paper bears, or None where it has no paper."""
        return {name: None if paper is None else borne(paper) for name, (_, paper) in self._kept.items()}

    def claim(self, name, statement):
        """Keep the name with the statement, without a paper."""
        if name in self._kept:
            raise Taken(f"the hall keeps the name {name} already")
        self._do(name, (statement, None))

    def show(self, name, paper):
        """Lay the paper to the name, in the place of any other one."""
        statement, _ = self._entry(name)
        if not same(shows_by(self._statements(), [], paper), statement):
            raise Unlike(f"the paper shows another statement than that of {name}")
        self._do(name, (statement, paper))

    def drop(self, name):
        """Take the paper of the name away."""
        statement, paper = self._entry(name)
        if paper is None:
            raise NoPaper(f"{name} has no paper")
        self._do(name, (statement, None))

    def strike(self, name):
        """Keep the name no more."""
        self._entry(name)
        for other, names in self._bears().items():
            if other != name and names is not None and name in names:
                raise InUse(f"the paper of {other} bears {name}")
        self._do(name, None)

    def back(self):
        """Take back the last deed that was not taken back yet."""
        if not self._deeds:
            raise Nothing("there is no deed to take back")
        name, entry = self._deeds.pop()
        self._set(name, entry)

    def __len__(self):
        return len(self._kept)

    def names(self):
        """All names, sorted."""
        return sorted(self._kept)

    def statement(self, name):
        """The statement of the name."""
        return self._entry(name)[0]

    def paper(self, name):
        """The paper of the name, or None."""
        return self._entry(name)[1]

    def standing(self):
        """The names that stand, sorted."""
        return sorted(standing_in_order(self._bears()))

    def why(self, name):
        """("stands", order) or ("open", road): why the name stands, or why it does not."""
        self._entry(name)
        book = self._bears()
        order = standing_in_order(book)
        if name not in order:
            return ("open", road_from(book, name, order))
        rested = rested_on(book, name)
        return ("stands", [other for other in order if other in rested])

    def full(self, name):
        """The paper of the name, with the full papers of the names that it bears in their places."""
        word, order = self.why(name)
        if word == "open":
            raise NotStanding(f"{name} does not stand")
        measures = {}
        for other in order:
            measures[other] = full_measures(self.paper(other), measures)
        many, depth = measures[name]
        look_at_measures(many, depth)
        fulls = {}
        for other in order:
            fulls[other] = full_paper(self.paper(other), fulls)
        return fulls[name]

    def sought(self, name, names=None):
        """("paper", p), p bearing some of the names and now the name's paper, or ("growth", g)."""
        goal = self.statement(name)
        rests = [other for other in self.names() if other != name] if names is None else list(names)
        word, found = seek([self.statement(other) for other in rests], goal)
        if word == "growth":
            return (word, found)
        paper = named(found, rests)
        self._do(name, (goal, paper))
        return (word, paper)
