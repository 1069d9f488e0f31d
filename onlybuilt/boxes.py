"""The rows of a sheet that is read, the boxes in which they stand, and what they see.

Rows are told by their places, from 0 on, and looked up by the texts of their
numbers, from 1 on.
"""

from onlybuilt.reasons import NAMES, fits


class Box:
    """A box with its first row; or, as the outermost one, the sheet itself."""

    def __init__(self, first):
        self.first = first
        self.last = first
        # The rows that stand in it and in no box within it.
        self.own = {}
        # The boxes that have ended and stood right within it, by their first rows.
        self.ended = {}

    def put(self, k):
        """Put the row at the place k into it."""
        self.own[str(k + 1)] = k
        self.last = k


class Reading:
    """The rows of a sheet that were taken, from above.

    Each of its lines is a tuple: the statement, in how many boxes the row
    stands, the word of its reason, and the places of the rows whose papers
    its paper is made of.
    """

    def __init__(self):
        self.lines = []
        self.givens = 0
        # The sheet itself, and the boxes in which the last row stands, from outside.
        self.around = [Box(0)]

    def level(self):
        """In how many boxes the last row stands."""
        return len(self.around) - 1

    def takes(self, boxes, a, word, numbers):
        """Take the next row, where it may stand there; tell whether it may."""
        if word not in NAMES or len(numbers) != len(NAMES[word]) or not self._may_stand(boxes, word):
            return False
        k = len(self.lines)
        self._leave(boxes - 1 if word == "assumed" else boxes)
        named = [self._named(kind, number) for kind, number in zip(NAMES[word], numbers)]
        if [] in named or not fits(word, a, [self.lines[row][0] for rows in named for row in rows]):
            return False
        if word == "assumed":
            self.around.append(Box(k))
        if word == "given":
            self.givens += 1
        # Of a box its end has the paper.
        self.lines.append((a, boxes, word, [rows[-1] for rows in named]))
        self.around[-1].put(k)
        return True

    def _may_stand(self, boxes, word):
        """Whether a row with that word may stand in so many boxes."""
        if word == "given":
            return boxes == 0 and self.givens == len(self.lines)
        if word == "assumed":
            return 1 <= boxes <= self.level() + 1
        return boxes <= self.level()

    def _leave(self, boxes):
        """End all boxes but so many, from outside."""
        while self.level() > boxes:
            box = self.around.pop()
            self.around[-1].ended[str(box.first + 1)] = box

    def _named(self, kind, number):
        """The row that is named, or the first row of the box and its end; none where it is not seen."""
        if kind == "box":
            box = self.around[-1].ended.get(number)
            return [] if box is None else [box.first, box.last]
        for box in self.around:
            if number in box.own:
                return [box.own[number]]
        return []
