"""What points 30 to 32 promise, told a second time, straight as the document tells it."""

from itertools import combinations

from tests import second

NEVER = ("never",)


def true_at(row, a):
    if a[0] == "letter":
        return a[1] in row
    if a[0] == "never":
        return False
    if a[0] == "and":
        return true_at(row, a[1]) and true_at(row, a[2])
    if a[0] == "or":
        return true_at(row, a[1]) or true_at(row, a[2])
    return true_at(row, a[2]) or not true_at(row, a[1])


def rows(statements):
    """All rows of the letters of the statements."""
    names = sorted({name for a in statements for name in second.letters(a)})
    return [list(some) for many in range(len(names) + 1) for some in combinations(names, many)]


def is_had(givens, goal):
    """Whether the table has the goal: no row bars it."""
    return all(
        true_at(row, goal) or not all(true_at(row, a) for a in givens)
        for row in rows([*givens, goal])
    )


def doubled(a):
    return ("then", ("then", a, NEVER), NEVER)


def negative(a):
    if a[0] == "letter":
        return doubled(a)
    if a[0] == "never":
        return a
    n, k = negative(a[1]), negative(a[2])
    if a[0] == "or":
        return ("then", ("and", ("then", n, NEVER), ("then", k, NEVER)), NEVER)
    return (a[0], n, k)
