"""What papers show, and how they are turned.

A paper is looked at by tasks, the next one being the last of a list, and not
by calls: papers that were told may be deeper than calls may be. A task is a
tuple of its word, of what it is about, and of the road to the paper there.
"""

from onlybuilt.errors import NoGiven, NotThat, Unnamed
from onlybuilt.forms import PAPERS, STATEMENT, remade
from onlybuilt.statements import same, turned


def _pair(paper, below):
    return ("and", below[0], below[1])


def _first(paper, below):
    return below[0][1] if below[0][0] == "and" else None


def _second(paper, below):
    return below[0][2] if below[0][0] == "and" else None


def _left(paper, below):
    return ("or", below[0], paper[2])


def _right(paper, below):
    return ("or", paper[1], below[0])


def _case(paper, below):
    return paper[4] if same(below[0], paper[4]) and same(below[1], paper[4]) else None


def _make(paper, below):
    return ("then", paper[1], below[0])


def _apply(paper, below):
    shown, a = below
    return shown[2] if shown[0] == "then" and same(shown[1], a) else None


def _escape(paper, below):
    return paper[2] if below[0][0] == "never" else None


# For each word what a paper shows whose papers show the statements below, or
# None where they are not such as the word asks. Of a case, below has what the
# second and the third paper show.
SHOWN = {
    "pair": _pair,
    "first": _first,
    "second": _second,
    "left": _left,
    "right": _right,
    "case": _case,
    "make": _make,
    "apply": _apply,
    "escape": _escape,
}


def _look(paper, road, place):
    """The task of looking at the paper at that place of the paper."""
    return ("look", paper[place], (*road, place))


def _look_with(a, paper, road, place):
    """The tasks of looking at the paper at that place, with a assumed."""
    return [("assume", a, road), _look(paper, road, place), ("forget", a, road)]


def _tasks(paper, road):
    """What is to be done for a paper that has others within it, in order."""
    word = paper[0]
    if word == "case":
        # What it assumes hangs on what its first paper shows.
        return [_look(paper, road, 1), ("part", paper, road)]
    if word == "make":
        looks = _look_with(paper[1], paper, road, 2)
    else:
        looks = [_look(paper, road, place) for place in PAPERS[word]]
    return [*looks, ("show", paper, road)]


def _tasks_behind_or(a, paper, road):
    """What is to be done for a case whose first paper shows a, in order."""
    if a[0] != "or":
        raise NotThat(road)
    at_left = _look_with(a[1], paper, road, 2)
    at_right = _look_with(a[2], paper, road, 3)
    return [*at_left, *at_right, ("show", paper, road)]


def _shown_by(paper, shown, road):
    """What the paper shows; what its papers show is taken off the end of shown."""
    right = shown.pop()
    # Of a case the first paper was taken off ahead of the others.
    below = [right] if len(PAPERS[paper[0]]) == 1 else [shown.pop(), right]
    rule = SHOWN[paper[0]]
    a = rule(paper, below)
    if a is None:
        raise NotThat(road)
    return a


def _had(book, given, paper, road):
    """What a use or a name shows."""
    word, key = paper
    if word == "name":
        if key not in book:
            raise Unnamed(road)
        return book[key]
    if not 0 <= key < len(given):
        raise NoGiven(road)
    return given[key]


def looked_over(book, givens, paper):
    """What is met in a look over the paper, in order, as tuples of a word, a paper and a statement.

    ("shown", p, a): the paper p within it, or at last the paper itself, shows
    a; ("assume", None, a): a is assumed for what follows; ("forget", None, a):
    it is no more.
    """
    given = list(givens)
    shown = []
    met = []
    tasks = [("look", paper, ())]
    while tasks:
        deed, about, road = tasks.pop()
        if deed == "assume":
            given.append(about)
            met.append((deed, None, about))
        elif deed == "forget":
            given.pop()
            met.append((deed, None, about))
        elif deed == "part":
            tasks.extend(_tasks_behind_or(shown.pop(), about, road)[::-1])
        elif deed == "look" and PAPERS[about[0]]:
            tasks.extend(_tasks(about, road)[::-1])
        else:
            a = _had(book, given, about, road) if deed == "look" else _shown_by(about, shown, road)
            shown.append(a)
            met.append(("shown", about, a))
    return met


def shows_by(book, givens, paper):
    """What the paper shows from the givens, the book telling what its names show."""
    return looked_over(book, givens, paper)[-1][2]


def shows(givens, paper):
    """What the paper shows from the givens, where no name shows anything."""
    return shows_by({}, givens, paper)


def _turned_alone(paper, book):
    """The paper with its own statement turned by the book, and its papers as they are."""
    place = STATEMENT.get(paper[0])
    if place is None:
        return paper
    return (*paper[:place], turned(paper[place], book), *paper[place + 1:])


def turned_paper(paper, book):
    """The paper with each statement in it turned by the book."""
    return remade(paper, lambda p, many: _turned_alone(p, book))
