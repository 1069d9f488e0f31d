"""Papers written as sheets: rows of text, each with a statement and why it is shown."""

from onlybuilt.forms import PAPERS
from onlybuilt.papers import looked_over
from onlybuilt.words import told


class Writing:
    """The rows of a sheet that were written, and what the next ones may name."""

    def __init__(self):
        self.rows = []
        # The numbers of the rows of what is given, and behind these of what is assumed.
        self.given = []
        # The numbers of rows that papers are named by, whose own place is not written yet.
        self.named = []
        self.boxes = 0

    def row(self, a, reason, numbers):
        """Write a row, and tell its number."""
        number = len(self.rows) + 1
        bars = "| " * self.boxes
        words = " ".join([reason, *[str(other) for other in numbers]])
        self.rows.append(f"{bars}{number}. {told(a)} by {words}")
        return number

    def shown(self, paper, a):
        """Write the row of the paper, which shows a; those within it are written."""
        if paper[0] == "use":
            self.named.append(self.given[paper[1]])
            return
        many = len(PAPERS[paper[0]])
        numbers = [self.named.pop() for _ in range(many)][::-1]
        self.named.append(self.row(a, paper[0], numbers))

    def begin(self, a):
        """Begin a box that assumes a."""
        self.boxes += 1
        self.given.append(self.row(a, "assumed", []))

    def end(self, paper, a):
        """End the box, whose part is the paper, which shows a."""
        if paper[0] == "use" and paper[1] != len(self.given) - 1:
            self.row(a, "again", [self.named[-1]])
        self.named[-1] = self.given.pop()
        self.boxes -= 1


def sheet(givens, paper):
    """The sheet of the paper, which shows something from the givens."""
    writing = Writing()
    for a in givens:
        writing.given.append(writing.row(a, "given", []))
    last, shown = paper, None
    for deed, p, a in looked_over({}, givens, paper):
        if deed == "assume":
            writing.begin(a)
        elif deed == "forget":
            writing.end(last, shown)
        else:
            writing.shown(p, a)
            last, shown = p, a
    if paper[0] == "use":
        writing.row(shown, "again", writing.named)
    return writing.rows
