"""Papers whose names give their places to other papers, and how large these become."""

from onlybuilt.forms import PAPERS, papers_within, remade
from onlybuilt.shifts import moved


def full_measures(paper, measures):
    """The size and the depth of the paper, where each name in it has those that measures tells of it."""
    pile = []
    # From the end of the list all papers within one are done ahead of it.
    for p in reversed(papers_within(paper)):
        below = [pile.pop() for _ in PAPERS[p[0]]]
        many = 1 + sum([size for size, _ in below])
        depth = 1 + max([depth for _, depth in below], default=0)
        pile.append(measures[p[1]] if p[0] == "name" else (many, depth))
    return pile.pop()


def full_paper(paper, fulls):
    """The paper with each name in it giving its place to the paper that fulls has for it, from no givens."""
    return remade(paper, lambda p, many: moved(fulls[p[1]], 0, many) if p[0] == "name" else p)


def named(paper, names):
    """The paper, from the statements of the names as givens, made one from no givens that bears these names."""
    many = len(names)

    def changed(p, _):
        if p[0] != "use":
            return p
        return ("name", names[p[1]]) if p[1] < many else ("use", p[1] - many)

    return remade(paper, changed)
