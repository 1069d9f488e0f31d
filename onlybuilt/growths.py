"""Growths: stands in which letters come and never go, and what holds at them.

Some stands of a growth are told between the functions of the program as bits.
"""

from onlybuilt.bits import has, together
from onlybuilt.errors import NoGrowth
from onlybuilt.statements import rows_of
from onlybuilt.words import is_name


def _is_rising(row):
    """Whether the row is sorted and has nothing twice."""
    return all([row[k] < row[k + 1] for k in range(len(row) - 1)])


def _is_stand(k, stand, many):
    """Whether the stand may have the number k in a growth of so many stands, names above aside."""
    names, numbers = stand
    if not (_is_rising(names) and _is_rising(numbers)):
        return False
    return all([is_name(name) for name in names]) and all([k < j < many for j in numbers])


def _names_stay(stands):
    """Whether each name of a stand is among those of each stand above."""
    found = [{name: True for name in names} for names, _ in stands]
    for names, numbers in stands:
        for j in numbers:
            if not all([name in found[j] for name in names]):
                return False
    return True


def is_growth(stands):
    """Whether the list of stands is a growth."""
    many = len(stands)
    if many == 0 or not all([_is_stand(k, stand, many) for k, stand in enumerate(stands)]):
        return False
    return _names_stay(stands)


def _ups(growth):
    """For each stand those at or above it."""
    ups = [0] * len(growth)
    # Steps lead to greater numbers alone, so those above are done first.
    for k in range(len(growth) - 1, -1, -1):
        reached = 1 << k
        for j in growth[k][1]:
            reached = reached | ups[j]
        ups[k] = reached
    return ups


def _with_letter(growth, name):
    """The stands that have the name."""
    return together([k for k, (names, _) in enumerate(growth) if name in names])


def _with_joint(ups, word, left, right):
    """The stands at which the joint holds, its left and right part holding at those handed in."""
    if word == "and":
        return left & right
    if word == "or":
        return left | right
    barring = left & ~right
    return together([k for k, up in enumerate(ups) if up & barring == 0])


def where(growth, rows):
    """For each of the rows of some statements (rows_of) the stands at which that part holds."""
    ups = _ups(growth)
    found = []
    for row in rows:
        if row[0] == "letter":
            found.append(_with_letter(growth, row[1]))
        elif row[0] == "never":
            found.append(0)
        else:
            found.append(_with_joint(ups, row[0], found[row[1]], found[row[2]]))
    return found


def seen(growth, a):
    """For each stand whether a holds there."""
    stands = where(growth, rows_of([a]))[-1]
    return [has(stands, k) for k in range(len(growth))]


def holds(growth, k, a):
    """Whether a holds at the stand of number k."""
    return seen(growth, a)[k]


def above(growth, k):
    """The numbers of the stands at or above that of number k, sorted."""
    up = _ups(growth)[k]
    return [j for j in range(len(growth)) if has(up, j)]


def cut(growth, k):
    """The growth of the stands at or above that of number k alone."""
    kept = above(growth, k)
    place = {j: new for new, j in enumerate(kept)}
    return [(list(growth[j][0]), [place[i] for i in growth[j][1]]) for j in kept]


def under(growths, letters):
    """A growth whose first stand has the letters, and right above it the growths."""
    for at, growth in enumerate(growths):
        if not all([name in growth[0][0] for name in letters]):
            raise NoGrowth(at)
    firsts = []
    stands = [(sorted(letters), firsts)]
    for growth in growths:
        shift = len(stands)
        firsts.append(shift)
        for names, numbers in growth:
            stands.append((list(names), [j + shift for j in numbers]))
    return stands
