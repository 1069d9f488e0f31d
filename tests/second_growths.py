"""What points 10 to 15 promise, told a second time, straight as the document tells it."""

import re
from itertools import combinations

from tests import second


def is_growth(stands):
    if not stands:
        return False
    for k, (names, above) in enumerate(stands):
        if any(not re.fullmatch("[a-z]{1,8}", name) for name in names):
            return False
        if set(names) & {"and", "or", "then", "never"}:
            return False
        if names != sorted(set(names)) or above != sorted(set(above)):
            return False
        if any(j <= k or j >= len(stands) for j in above):
            return False
    return all(set(names) <= set(stands[j][0]) for names, above in stands for j in above)


def above(growth, k):
    found = {k}
    for j in growth[k][1]:
        found |= set(above(growth, j))
    return sorted(found)


def holds(growth, k, a):
    if a[0] == "letter":
        return a[1] in growth[k][0]
    if a[0] == "never":
        return False
    if a[0] == "and":
        return holds(growth, k, a[1]) and holds(growth, k, a[2])
    if a[0] == "or":
        return holds(growth, k, a[1]) or holds(growth, k, a[2])
    return all(holds(growth, j, a[2]) for j in above(growth, k) if holds(growth, j, a[1]))


def cut(growth, k):
    kept = above(growth, k)
    return [(growth[j][0], [kept.index(i) for i in growth[j][1]]) for j in kept]


def folded(growth, statements):
    stands = above(growth, 0)
    parts = [part for a in statements for part in second.parts(a)]
    sets = {k: {part for part in parts if holds(growth, k, part)} for k in stands}
    unlike = []
    for k in stands:
        if sets[k] not in unlike:
            unlike.append(sets[k])
    # As sorting keeps the order of what is as long, that of the least number stays.
    unlike.sort(key=len)
    told = [
        (
            sorted(part[1] for part in one if part[0] == "letter"),
            [n for n, other in enumerate(unlike) if one < other],
        )
        for one in unlike
    ]
    return told, {k: unlike.index(sets[k]) for k in stands}


def matched(pairs, one, other, k, j):
    return (
        one[k][0] == other[j][0]
        and all(any((i, n) in pairs for n in above(other, j)) for i in above(one, k))
        and all(any((i, n) in pairs for i in above(one, k)) for n in above(other, j))
    )


def like(one, other):
    """All pairs of any row of pairs that are all matched in it: all rows are tried."""
    pairs = [(k, j) for k in range(len(one)) for j in range(len(other))]
    found = set()
    for many in range(len(pairs) + 1):
        for row in combinations(pairs, many):
            if not set(row) <= found and all(matched(row, one, other, *pair) for pair in row):
                found |= set(row)
    return found


def told_pairs(one, other):
    """The pairs of like stands at or above the first ones, sorted."""
    found = like(one, other)
    return sorted((k, j) for k, j in found if k in above(one, 0) and j in above(other, 0))
