"""Of what papers are made, told once for all that look at them.

Nothing here calls itself: papers that were told may be deeper than calls may be.
"""

# For each word of a paper the places at which papers stand in it, in order.
PAPERS = {
    "use": (),
    "pair": (1, 2),
    "first": (1,),
    "second": (1,),
    "left": (1,),
    "right": (2,),
    "case": (1, 2, 3),
    "make": (2,),
    "apply": (1, 2),
    "escape": (1,),
    "name": (),
}

# For each word of a paper that bears a statement the place of it.
STATEMENT = {"left": 2, "right": 1, "case": 4, "make": 1, "escape": 2}


def papers_within(paper):
    """The paper and all within it, each as often as it stands, ahead of those within it."""
    found = []
    ahead = [paper]
    while ahead:
        p = ahead.pop()
        found.append(p)
        for place in PAPERS[p[0]][::-1]:
            ahead.append(p[place])
    return found


def rebuilt(paper, papers):
    """The paper with other papers, in their order, in the places of its own."""
    row = list(paper)
    for place, p in zip(PAPERS[paper[0]], papers):
        row[place] = p
    return tuple(row)
