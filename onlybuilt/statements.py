"""Statements: their joints, knots, letters and parts, and how they are turned.

Nothing here calls itself: a statement that was told by the program may be
handed in again, and may be nested deeper than calls may be.
"""


def _standing(a):
    """All parts of a, each as often as it stands, the left ones ahead of the right ones."""
    found = []
    ahead = [a]
    while ahead:
        b = ahead.pop()
        found.append(b)
        if len(b) == 3:
            ahead.append(b[2])
            ahead.append(b[1])
    return found


def joints(a):
    """How many ands, ors and thens stand in a."""
    return len([b for b in _standing(a) if len(b) == 3])


def knots(a):
    """How many ors stand in a, and thens in the left part of a then."""
    many = 0
    ahead = [(a, False)]
    while ahead:
        b, in_left = ahead.pop()
        if len(b) == 3:
            word, left, right = b
            if word == "or" or (word == "then" and in_left):
                many += 1
            ahead.append((left, in_left or word == "then"))
            ahead.append((right, in_left))
    return many


def letters(a):
    """The names of the letters of a, sorted, each once."""
    return sorted({b[1] for b in _standing(a) if b[0] == "letter"})


def _numbers(standing, known):
    """A number for each part of a list of _standing, the same one for equal parts.

    The dict known keeps the number of each part: a joint is known there by
    its word and the numbers of its left and right part.
    """
    # Numbers stand for the left and right parts in the keys, because a key
    # of the whole statement would be walked anew for each part that it has.
    pile = []
    numbers = []
    for b in reversed(standing):
        key = b
        if len(b) == 3:
            left = pile.pop()
            right = pile.pop()
            key = (b[0], left, right)
        number = known.setdefault(key, len(known))
        pile.append(number)
        numbers.append(number)
    return numbers[::-1]


def parts(a):
    """The parts of a, each once, in the order in which they first come."""
    standing = _standing(a)
    first = {}
    for number, b in zip(_numbers(standing, {}), standing):
        first.setdefault(number, b)
    return list(first.values())


def numbered(statements):
    """A list of all parts of the statements, and for each statement its place in the list.

    Each part is there once, behind its own parts: letters and never as they
    are, a joint as (word, left, right), left and right being the places of
    its parts in the list.
    """
    known = {}
    places = [_numbers(_standing(a), known)[0] for a in statements]
    return list(known), places


def rows_of(statements):
    """The list of all parts of the statements, as numbered tells it."""
    return numbered(statements)[0]


def told_by(rows):
    """The parts that the rows of numbered tell, as statements."""
    told = []
    for row in rows:
        told.append((row[0], told[row[1]], told[row[2]]) if len(row) == 3 else row)
    return told


def same(a, b):
    """Whether both statements are the same."""
    # Not by ==, which calls itself over the parts of tuples.
    ahead = [(a, b)]
    while ahead:
        one, other = ahead.pop()
        if one[0] != other[0]:
            return False
        if len(one) == 3:
            ahead.append((one[2], other[2]))
            ahead.append((one[1], other[1]))
        elif one != other:
            return False
    return True


def turned(a, book):
    """The statement a, each letter that is in the book replaced by what the book has."""
    pile = []
    # From the end of the row both parts of a joint are done ahead of it,
    # the left one last, so that it lies uppermost.
    for b in reversed(_standing(a)):
        if len(b) == 3:
            left = pile.pop()
            right = pile.pop()
            pile.append((b[0], left, right))
        elif b[0] == "letter" and b[1] in book:
            pile.append(book[b[1]])
        else:
            pile.append(b)
    return pile.pop()
