"""Steps of papers: a paper and its chief one taken away, or a case or an escape lifted.

The chief paper of a first, second, apply, case or escape is the one right
behind its word. At each place n is how many are given there.
"""

from onlybuilt.forms import ASSUMES, PAPERS, rebuilt
from onlybuilt.shifts import moved, put_in

WITH_CHIEF = ("first", "second", "apply", "case", "escape")


def _taken(n, paper):
    """What comes of the paper where it and its chief one take each other away, else None."""
    word, chief = paper[0], paper[1]
    if word == "first" and chief[0] == "pair":
        return chief[1]
    if word == "second" and chief[0] == "pair":
        return chief[2]
    if word == "apply" and chief[0] == "make":
        return put_in(chief[2], n, paper[2])
    if word == "case" and chief[0] == "left":
        return put_in(paper[2], n, chief[1])
    if word == "case" and chief[0] == "right":
        return put_in(paper[3], n, chief[2])
    return None


def _shown(paper, a):
    """What the paper shows, whose chief one shows a."""
    if paper[0] == "first":
        return a[1]
    if paper[0] in ("second", "apply"):
        return a[2]
    return paper[-1]


def _with_chief(n, paper, chief):
    """The paper with another chief one, where one more is given."""
    others = [moved(paper[place], n, 1) for place in PAPERS[paper[0]][1:]]
    return rebuilt(paper, [chief, *others])


def _lifted(n, paper):
    """What comes of the paper where its chief one is a case or an escape, else None."""
    chief = paper[1]
    if chief[0] == "escape":
        return ("escape", chief[1], _shown(paper, chief[2]))
    if chief[0] == "case":
        _, p, q, r, a = chief
        return ("case", p, _with_chief(n, paper, q), _with_chief(n, paper, r), _shown(paper, a))
    return None


def _stepped(n, paper):
    """What comes of the paper by the step at itself, or None."""
    if paper[0] not in WITH_CHIEF:
        return None
    return _taken(n, paper) or _lifted(n, paper)


def _with_at(paper, road, part):
    """The paper with the part in the place of that at the road."""
    passed = []
    for place in road:
        passed.append(paper)
        paper = paper[place]
    for place, p in zip(road[::-1], passed[::-1]):
        part = (*p[:place], part, *p[place + 1:])
    return part


def step(many, paper):
    """The paper with one step done, so many being given; None where it is at rest."""
    ahead = [(many, paper, ())]
    while ahead:
        n, p, road = ahead.pop()
        part = _stepped(n, p)
        if part is not None:
            return _with_at(paper, road, part)
        assumes = ASSUMES.get(p[0], ())
        for place in PAPERS[p[0]][::-1]:
            ahead.append((n + 1 if place in assumes else n, p[place], (*road, place)))
    return None
