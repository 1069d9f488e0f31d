"""The machine that runs the rows of papers.

A value is kept as a tuple of its shape and of what it is made of: two values,
one value, or of a make its place and its given values.
"""


class Machine:
    """The place, the given values, the pile of values and that of the ways back."""

    def __init__(self):
        self.place = 0
        self.given = ()
        self.pile = []
        self.ways = []
        self.rests = False

    def do(self, row):
        """Do the row."""
        word = row[0]
        self.place += 1
        if word == "back":
            self._back()
        elif word == "apply":
            v = self.pile.pop()
            _, (place, given) = self.pile.pop()
            self._go(place, (*given, v))
        elif word == "case":
            shape, (u,) = self.pile.pop()
            self._go(row[1] if shape[0] == "left" else row[2], (*self.given, u))
        else:
            self.pile.append(self._made(row))

    def _back(self):
        if self.ways:
            self.place, self.given = self.ways.pop()
        else:
            self.rests = True

    def _go(self, place, given):
        """Go on at the place with the given values, and come back here."""
        self.ways.append((self.place, self.given))
        self.place = place
        self.given = given

    def _made(self, row):
        """The value that the row lays on the pile."""
        word = row[0]
        if word == "take":
            return self.given[row[1]]
        if word == "make":
            return (("make",), (row[1], self.given))
        if word == "pair":
            v = self.pile.pop()
            u = self.pile.pop()
            return (("pair", u[0], v[0]), (u, v))
        u = self.pile.pop()
        if word == "first":
            return u[1][0]
        if word == "second":
            return u[1][1]
        return ((word, u[0]), (u,))


def run_code(rows, most):
    """The shape of what the rows make and how many rows were done, or (("more",), most)."""
    machine = Machine()
    for done in range(1, most + 1):
        machine.do(rows[machine.place])
        if machine.rests:
            return (machine.pile[-1][0], done)
    return (("more",), most)
