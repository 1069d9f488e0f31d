"""Papers made into rows for the machine."""

from onlybuilt.forms import ASSUMES, PAPERS


class Coder:
    """Makes the rows of papers whose stretches stand apart, one behind the other."""

    def __init__(self):
        self.rows = []
        # The papers that have a stretch of their own, in order.
        self.papers = []

    def apart(self, paper):
        """The place of the stretch of the paper, which is to stand apart, among all these."""
        self.papers.append(paper)
        return len(self.papers) - 1

    def row(self, paper):
        """The row of the paper itself; it tells of a stretch apart by the place of that."""
        if paper[0] == "use":
            return ("take", paper[1])
        places = ASSUMES.get(paper[0], ())
        return (paper[0], *[self.apart(paper[place]) for place in places])

    def lay(self, paper):
        """Lay the stretch of the paper behind all rows."""
        # The row of a paper is made when its place is come to, and not ahead
        # of the rows within its stretch, as they may tell of stretches, too.
        ahead = [(paper, False)]
        while ahead:
            p, within_done = ahead.pop()
            if within_done:
                self.rows.append(self.row(p))
                continue
            ahead.append((p, True))
            for place in PAPERS[p[0]][::-1]:
                if place not in ASSUMES.get(p[0], ()):
                    ahead.append((p[place], False))
        self.rows.append(("back",))


def code(paper):
    """The rows of the paper, for the machine."""
    coder = Coder()
    coder.apart(paper)
    firsts = []
    while len(firsts) < len(coder.papers):
        firsts.append(len(coder.rows))
        coder.lay(coder.papers[len(firsts) - 1])
    return [
        (row[0], *[firsts[place] for place in row[1:]]) if row[0] in ASSUMES else row
        for row in coder.rows
    ]
