"""What points 45 to 48 promise, told a second time, straight as the document tells it."""

import re

from tests import second, second_papers, second_steps

COUNTS = {
    "given": 0, "assumed": 0, "pair": 2, "first": 1, "second": 1, "left": 1, "right": 1, "apply": 2, "escape": 1,
    "make": 1, "case": 3, "again": 1,
}


class Refused(Exception):
    """BadRow with its at, or TooLarge."""


class Row:
    """A row: the numbers of the first rows of its boxes, its statement, its word, the numbers it names."""

    def __init__(self, text, place, ahead):
        found = re.fullmatch(r"((?:\| )*)([0-9]+)\. (.*) by ([a-z]+)((?: [0-9]+)*)", text)
        if not found or found[2] != str(place) or found[4] not in COUNTS:
            raise second.Wrong
        bars, _, statement, self.word, numbers = found.groups()
        numbers = numbers.split()
        self.named = [int(number) for number in numbers]
        if numbers != [str(number) for number in self.named] or len(numbers) != COUNTS[self.word]:
            raise second.Wrong
        self.a = second.read(statement)
        self.place = place
        self.boxes = self.boxes_in(len(bars) // 2, ahead)

    def boxes_in(self, many, ahead):
        last = ahead[-1].boxes if ahead else ()
        if self.word == "assumed":
            if not 1 <= many <= len(last) + 1:
                raise second.Wrong
            return (*last[:many - 1], self.place)
        if many > len(last):
            raise second.Wrong
        if self.word == "given" and (many or any(row.word != "given" for row in ahead)):
            raise second.Wrong
        return last[:many]


def seen(row, ahead, number):
    """The row of that number, which the row sees."""
    for other in ahead:
        if other.place == number and other.boxes == row.boxes[:len(other.boxes)]:
            return other
    raise second.Wrong


def seen_box(row, ahead, number):
    """What the box assumes and its end, where the row sees it."""
    for first in ahead:
        if first.place == number and first.word == "assumed" and first.boxes == (*row.boxes, number):
            return first.a, [other for other in ahead if other.boxes == first.boxes][-1]
    raise second.Wrong


def ask(truth):
    if not truth:
        raise second.Wrong


def below(row, ahead):
    """The rows whose papers the row's paper is made of, the reason being as 46 asks."""
    a, word = row.a, row.word
    if word in ("given", "assumed"):
        return []
    if word == "make":
        assumed, end = seen_box(row, ahead, row.named[0])
        ask(a == ("then", assumed, end.a))
        return [end]
    i = seen(row, ahead, row.named[0])
    if word == "case":
        left, left_end = seen_box(row, ahead, row.named[1])
        right, right_end = seen_box(row, ahead, row.named[2])
        ask(i.a == ("or", left, right) and left_end.a == a and right_end.a == a)
        return [i, left_end, right_end]
    if word in ("pair", "apply"):
        j = seen(row, ahead, row.named[1])
        ask(a == ("and", i.a, j.a) if word == "pair" else i.a == ("then", j.a, a))
        return [i, j]
    ask({
        "first": lambda: i.a[0] == "and" and i.a[1] == a, "second": lambda: i.a[0] == "and" and i.a[2] == a,
        "left": lambda: a[0] == "or" and a[1] == i.a, "right": lambda: a[0] == "or" and a[2] == i.a,
        "escape": lambda: i.a == ("never",), "again": lambda: i.a == a,
    }[word]())
    return [i]


def paper_of(row, givens):
    """The paper of the row; only to be asked for where it is not too large."""
    if row.word == "given":
        return ("use", row.place - 1)
    if row.word == "assumed":
        return ("use", givens + len(row.boxes) - 1)
    many = len(row.boxes)
    papers = [
        second_steps.moved(paper_of(other, givens), givens + len(other.boxes), max(0, many - len(other.boxes)))
        for other in row.below
    ]
    if row.word == "again":
        return papers[0]
    if row.word in ("right", "make"):
        return (row.word, row.a[1], *papers)
    if row.word == "left":
        return ("left", *papers, row.a[2])
    if row.word in ("case", "escape"):
        return (row.word, *papers, row.a)
    return (row.word, *papers)


def measures(rows):
    """The size and the depth of the last row's paper."""
    found = {}
    for row in rows:
        parts = [found[other.place] for other in row.below]
        if row.word == "again":
            found[row.place] = parts[0]
        else:
            found[row.place] = (1 + sum(one for one, _ in parts), 1 + max([depth for _, depth in parts], default=0))
    return found[rows[-1].place]


def read_sheet(texts):
    rows = []
    for place, text in enumerate(texts, start=1):
        try:
            row = Row(text, place, rows)
            row.below = below(row, rows)
        except second.Wrong:
            raise Refused("BadRow", place) from None
        rows.append(row)
    if not rows or rows[-1].boxes:
        raise Refused("BadRow", len(rows))
    many, depth = measures(rows)
    if many > 2000 or depth > 200:
        raise Refused("TooLarge", None)
    givens = [row.a for row in rows if row.word == "given"]
    return givens, rows[-1].a, paper_of(rows[-1], len(givens))


def sheet(givens, paper):
    """The sheet of the paper."""
    texts = []
    refs = []

    def write(bars, a, reason):
        texts.append("| " * bars + f"{len(texts) + 1}. {second.told(a)} by {reason}")
        return len(texts)

    def box(given, part, assumed, bars):
        first = write(bars + 1, assumed, "assumed")
        refs.append(first)
        if part[0] == "use" and part[1] != len(given):
            write(bars + 1, second_papers.shows({}, [*given, assumed], part), f"again {refs[part[1]]}")
        else:
            number([*given, assumed], part, bars + 1)
        refs.pop()
        return first

    def number(given, p, bars):
        """Write the rows of the paper; tell the number by which it is named."""
        if p[0] == "use":
            return refs[p[1]]
        a = second_papers.shows({}, given, p)
        if p[0] == "make":
            named = [box(given, p[2], p[1], bars)]
        elif p[0] == "case":
            split = second_papers.shows({}, given, p[1])
            named = [number(given, p[1], bars), box(given, p[2], split[1], bars), box(given, p[3], split[2], bars)]
        else:
            named = [number(given, p[at], bars) for at in second_papers.places(p)]
        return write(bars, a, " ".join([p[0], *map(str, named)]))

    for a in givens:
        refs.append(write(0, a, "given"))
    last = number(givens, paper, 0)
    if paper[0] == "use":
        write(0, givens[paper[1]], f"again {last}")
    return texts
