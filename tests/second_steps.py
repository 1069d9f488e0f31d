"""What points 19 to 25 promise, told a second time, straight as the document tells it."""

from tests import second, second_papers
from tests.second_papers import deep, places, size


def assumed(paper, at):
    """How many are assumed for the paper at that place."""
    return 1 if (paper[0], at) in (("make", 2), ("case", 2), ("case", 3)) else 0


def within(paper, change):
    """The paper with each one right within it changed, by its place and itself."""
    spots = places(paper)
    return tuple(change(at, thing) if at in spots else thing for at, thing in enumerate(paper))


def moved(paper, at, by):
    if paper[0] == "use":
        return ("use", paper[1] + (by if paper[1] >= at else 0))
    return within(paper, lambda _, p: moved(p, at, by))


def put_in(paper, at, other, round_it=0):
    if paper[0] != "use":
        return within(paper, lambda place, p: put_in(p, at, other, round_it + assumed(paper, place)))
    if paper[1] == at:
        return moved(other, at, round_it)
    return ("use", paper[1] - 1) if paper[1] > at else paper


def taken(n, paper):
    """What a paper and its chief one leave where they take each other away, else None."""
    word, chief = paper[0], paper[1]
    pair = (word, chief[0] if isinstance(chief, tuple) else "")
    if pair == ("first", "pair"):
        return chief[1]
    if pair == ("second", "pair"):
        return chief[2]
    if pair == ("apply", "make"):
        return put_in(chief[2], n, paper[2])
    if pair == ("case", "left"):
        return put_in(paper[2], n, chief[1])
    if pair == ("case", "right"):
        return put_in(paper[3], n, chief[2])
    return None


def lifted(n, paper):
    """What comes of a case or an escape that is lifted, else None."""
    word = paper[0]
    if word not in ("first", "second", "apply", "case", "escape") or paper[1][0] not in ("case", "escape"):
        return None
    chief = paper[1]
    d = chief[-1]
    c = {"first": d[1:2], "second": d[2:], "apply": d[2:], "case": paper[-1:], "escape": paper[-1:]}[word][0]
    if chief[0] == "escape":
        return ("escape", chief[1], c)

    def around(inner):
        return within(paper, lambda at, p: inner if at == 1 else moved(p, n, 1))

    return ("case", chief[1], around(chief[2]), around(chief[3]), c)


def step(n, paper):
    here = taken(n, paper)
    if here is None:
        here = lifted(n, paper)
    if here is not None:
        return here
    for at in places(paper):
        part = step(n + assumed(paper, at), paper[at])
        if part is not None:
            return (*paper[:at], part, *paper[at + 1:])
    return None


def run(many, paper, steps, room):
    for done in range(steps + 1):
        following = step(many, paper)
        if following is None:
            return ("rest", paper, done)
        if done == steps:
            return ("more", paper, done)
        if size(following) > room or deep(following) > 200:
            return ("large", paper, done)
        paper = following


def spoken(book, givens, paper):
    """All statements that a paper within it shows, or that it bears, and those of its names."""
    found = [second_papers.shows(book, givens, paper)]
    spots = places(paper)
    for at, thing in enumerate(paper):
        if at in spots:
            more = []
            if assumed(paper, at):
                # What a make assumes it bears; what a case assumes its first paper shows.
                more = [paper[1]]
                if paper[0] == "case":
                    more = [second_papers.shows(book, givens, paper[1])[at - 1]]
            found += spoken(book, [*givens, *more], thing)
        elif isinstance(thing, tuple):
            found.append(thing)
    return found


def names(paper):
    """The texts of all names in it."""
    if paper[0] == "name":
        return [paper[1]]
    return [text for at in places(paper) for text in names(paper[at])]


def allowed(book, givens, paper):
    """All parts of the givens, of the statements of its names, and of what it shows."""
    roots = [*givens, *[book[text] for text in names(paper)], second_papers.shows(book, givens, paper)]
    return [part for a in roots for part in second.parts(a)]
