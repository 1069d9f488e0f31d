"""The papers of the rows of a sheet, told by its lines (boxes)."""

from onlybuilt.shifts import moved


def measures(lines):
    """The size and the depth of the paper of the last line."""
    found = []
    for _, _, word, rows in lines:
        below = [found[row] for row in rows]
        if word == "again":
            found.append(below[0])
        else:
            whole = 1 + sum([many for many, _ in below])
            found.append((whole, 1 + max([depth for _, depth in below], default=0)))
    return found[-1]


def _built(a, word, papers):
    """The paper of that word that shows a and is made of the papers."""
    if word in ("left", "escape", "case"):
        return (word, *papers, a[2] if word == "left" else a)
    if word in ("right", "make"):
        return (word, a[1], *papers)
    return (word, *papers)


def _needed(lines):
    """The places of the lines of whose papers that of the last line is made, sorted."""
    found = {len(lines) - 1: True}
    for k in range(len(lines) - 1, -1, -1):
        if k in found:
            for row in lines[k][3]:
                found[row] = True
    return sorted(found)


def drawn(lines, givens):
    """The paper of the last line, where so many are given."""
    papers = {}
    for k in _needed(lines):
        a, boxes, word, rows = lines[k]
        below = []
        for row in rows:
            # The end of a box stands in one box more, as it does in the paper.
            own = lines[row][1]
            below.append(moved(papers[row], givens + own, boxes - own) if own < boxes else papers[row])
        if word == "given":
            papers[k] = ("use", k)
        elif word == "assumed":
            papers[k] = ("use", givens + boxes - 1)
        else:
            papers[k] = below[0] if word == "again" else _built(a, word, below)
    return papers[len(lines) - 1]
