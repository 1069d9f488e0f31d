"""Papers measured, moved, and put into one another."""

from onlybuilt.forms import PAPERS, levels, papers_within, remade


def size(paper):
    """How many papers the paper is made of."""
    return len(papers_within(paper))


def deep(paper):
    """The depth of the paper: 1 where no paper stands within it."""
    pile = []
    # From the end of the list all papers within one are done ahead of it.
    for p in reversed(papers_within(paper)):
        depths = [pile.pop() for _ in PAPERS[p[0]]]
        pile.append(1 + max(depths, default=0))
    return pile.pop()


def moved(paper, at, by):
    """The paper with each use of the number at, or a greater one, made one greater by so many."""
    return remade(paper, lambda p, many: ("use", p[1] + by) if p[0] == "use" and p[1] >= at else p)


def put_in(paper, at, other):
    """The paper with the other one in the place of each use of the number at."""
    rounds = sorted({many for p, many in levels(paper) if p[0] == "use" and p[1] == at})
    # The other paper as it stands where so many more are assumed.
    moves = {many: moved(other, at, many) for many in rounds}

    def changed(p, many):
        if p[0] != "use" or p[1] < at:
            return p
        return moves[many] if p[1] == at else ("use", p[1] - 1)

    return remade(paper, changed)
