"""What points 33 to 40 promise, told a second time, straight as the document tells it.

A model keeps, for each deed, all that was kept ahead of it.
"""

from tests import second_papers, second_steps
from tests.second_papers import places


class Refused(Exception):
    """What a model is refused with: the name of the class, and a road or None."""


def ask(truth, name, road=None):
    if not truth:
        raise Refused(name, road)


class Model:

    def __init__(self):
        self.kept = {}
        self.ahead = []

    def deed(self, name, entry):
        self.ahead.append(dict(self.kept))
        self.kept[name] = entry
        if entry is None:
            del self.kept[name]

    def claim(self, name, statement):
        ask(name not in self.kept, "Taken")
        self.deed(name, (statement, None))

    def show(self, name, paper):
        ask(name in self.kept, "NoName")
        book = {word: a for word, (a, _) in self.kept.items()}
        try:
            a = second_papers.shows(book, [], paper)
        except second_papers.Refused as refusal:
            raise Refused(*refusal.args) from None
        ask(a == self.kept[name][0], "Unlike")
        self.deed(name, (a, paper))

    def drop(self, name):
        ask(name in self.kept, "NoName")
        ask(self.kept[name][1] is not None, "NoPaper")
        self.deed(name, (self.kept[name][0], None))

    def strike(self, name):
        ask(name in self.kept, "NoName")
        ask(all(name not in self.borne(other) for other in self.kept if other != name), "InUse")
        self.deed(name, None)

    def back(self):
        ask(self.ahead, "Nothing")
        self.kept = self.ahead.pop()

    def borne(self, name):
        paper = self.kept[name][1]
        return set() if paper is None else set(second_steps.names(paper))

    def rested(self, name):
        """The names on which it rests: all that can be come to."""
        found = set()
        ahead = [name]
        while ahead:
            more = self.borne(ahead.pop()) - found
            found |= more
            ahead += more
        return found

    def standing(self):
        """What is not left behind, when names are taken out one by one that rest on nothing left."""
        left = dict.fromkeys(self.kept)
        out = [None]
        while out:
            out = [
                name for name in left
                if self.kept[name][1] is not None and not self.borne(name) & set(left)
            ]
            for name in out:
                del left[name]
        return sorted(set(self.kept) - set(left))

    def full(self, name):
        ask(name in self.kept, "NoName")
        ask(name in self.standing(), "NotStanding")
        ask(self.full_size(name) <= 2000 and self.full_depth(name) <= 200, "TooLarge")
        return self.filled(self.kept[name][1], 0)

    def full_size(self, name):
        return self.measured(self.kept[name][1], self.full_size, lambda sizes: 1 + sum(sizes))

    def full_depth(self, name):
        return self.measured(self.kept[name][1], self.full_depth, lambda depths: 1 + max(depths, default=0))

    def measured(self, paper, of_name, of_papers):
        if paper[0] == "name":
            return of_name(paper[1])
        return of_papers([self.measured(paper[at], of_name, of_papers) for at in places(paper)])

    def filled(self, paper, assumed):
        if paper[0] == "name":
            return second_steps.moved(self.full(paper[1]), 0, assumed)
        return second_steps.within(
            paper, lambda at, p: self.filled(p, assumed + second_steps.assumed(paper, at))
        )
