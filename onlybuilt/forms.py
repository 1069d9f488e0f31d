"""Of what papers are made, told once for all that look at them.

Nothing here calls itself: papers that were told may be deeper than calls may be.
"""

# For each word of a paper the places at which papers stand in it, in order.
PAPERS = {
    "use": (),
    "pair": (1, 2),
    "first": (1,),
    "second": (1,),
    "left": (1,),
    "right": (2,),
    "case": (1, 2, 3),
    "make": (2,),
    "apply": (1, 2),
    "escape": (1,),
    "name": (),
}

# For each word of a paper that bears a statement the place of it.
STATEMENT = {"left": 2, "right": 1, "case": 4, "make": 1, "escape": 2}

# For each word the places of the papers for which it assumes something.
ASSUMES = {"case": (2, 3), "make": (2,)}


def levels(paper):
    """The paper and all within it, each as often as it stands, ahead of those within it.

    Each one is told as a tuple, with how many are assumed round it.
    """
    found = []
    ahead = [(paper, 0)]
    while ahead:
        p, many = ahead.pop()
        found.append((p, many))
        assumes = ASSUMES.get(p[0], ())
        for place in PAPERS[p[0]][::-1]:
            ahead.append((p[place], many + 1 if place in assumes else many))
    return found


def papers_within(paper):
    """The paper and all within it, as levels tells them."""
    return [p for p, _ in levels(paper)]


def rebuilt(paper, papers):
    """The paper with other papers, in their order, in the places of its own."""
    row = list(paper)
    for place, p in zip(PAPERS[paper[0]], papers):
        row[place] = p
    return tuple(row)


def remade(paper, change):
    """The paper, changed from within: each paper, with its own ones changed already, by change.

    The function change is handed the paper and how many are assumed round it.
    """
    pile = []
    # From the end of the list all papers within one are done ahead of it, the
    # leftmost last, so that it lies uppermost.
    for p, many in reversed(levels(paper)):
        papers = [pile.pop() for _ in PAPERS[p[0]]]
        pile.append(change(rebuilt(p, papers), many))
    return pile.pop()
