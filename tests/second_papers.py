"""What points 16 to 18 promise, told a second time, straight as the document tells it."""

from tests import second


class Refused(Exception):
    """What the first thing that is not as 16 asks is refused with, and its road."""


def is_paper(thing):
    """Whether a thing within a paper is a paper, no statement, no number, no text."""
    return isinstance(thing, tuple) and thing[0] not in ("letter", "never", "and", "or", "then")


def places(paper):
    """The places at which papers stand in it."""
    return [at for at, thing in enumerate(paper) if is_paper(thing)]


def ask(truth, name, road):
    if not truth:
        raise Refused(name, road)


def shows(book, givens, paper, road=()):
    def part(place, *assumed):
        return shows(book, [*givens, *assumed], paper[place], (*road, place))

    word = paper[0]
    if word == "use":
        ask(paper[1] in range(len(givens)), "NoGiven", road)
        return givens[paper[1]]
    if word == "name":
        ask(paper[1] in book, "Unnamed", road)
        return book[paper[1]]
    if word == "pair":
        return ("and", part(1), part(2))
    if word in ("first", "second"):
        shown = part(1)
        ask(shown[0] == "and", "NotThat", road)
        return shown[1] if word == "first" else shown[2]
    if word == "left":
        return ("or", part(1), paper[2])
    if word == "right":
        return ("or", paper[1], part(2))
    if word == "case":
        shown = part(1)
        ask(shown[0] == "or", "NotThat", road)
        both = [part(2, shown[1]), part(3, shown[2])]
        ask(both == [paper[4], paper[4]], "NotThat", road)
        return paper[4]
    if word == "make":
        return ("then", paper[1], part(2, paper[1]))
    if word == "apply":
        shown, a = part(1), part(2)
        ask(shown[0] == "then" and shown[1] == a, "NotThat", road)
        return shown[2]
    ask(part(1) == ("never",), "NotThat", road)
    return paper[2]


def turned_paper(paper, book):
    row = [paper[0]]
    for thing in paper[1:]:
        if is_paper(thing):
            row.append(turned_paper(thing, book))
        elif isinstance(thing, tuple):
            row.append(second.turned(thing, book))
        else:
            row.append(thing)
    return tuple(row)


def size(paper):
    return 1 + sum(size(paper[at]) for at in places(paper))


def deep(paper):
    return 1 + max([deep(paper[at]) for at in places(paper)], default=0)


def roads(paper, road=()):
    """The roads to all papers within it, its own one among them."""
    found = [road]
    for at in places(paper):
        found += roads(paper[at], (*road, at))
    return found


def at_road(paper, road):
    for place in road:
        paper = paper[place]
    return paper


def with_at(paper, road, other):
    """The paper with another one at the road."""
    if not road:
        return other
    place = road[0]
    return (*paper[:place], with_at(paper[place], road[1:], other), *paper[place + 1:])
