"""Growths compared: the stands of both that are like, or a statement that tells them apart."""

from onlybuilt.bits import has
from onlybuilt.errors import TooLarge
from onlybuilt.growths import above, cut, under, where
from onlybuilt.statements import joints, rows_of

MOST = 6


def _all_matched(pairs, k_up, j_up):
    """Whether each of the stands k_up is in a pair with one of j_up, and the other way about."""
    return all([any([(k, j) in pairs for j in j_up]) for k in k_up]) and all(
        [any([(k, j) in pairs for k in k_up]) for j in j_up]
    )


def _like(one, other):
    """The pairs of stands, those at or above the first ones, that are like."""
    k_ups = {k: above(one, k) for k in above(one, 0)}
    j_ups = {j: above(other, j) for j in above(other, 0)}
    kept = [(k, j) for k in k_ups for j in j_ups if one[k][0] == other[j][0]]
    pairs = []
    # What is not matched falls out, until all that is left is.
    while kept != pairs:
        pairs = kept
        kept = [(k, j) for k, j in pairs if _all_matched(pairs, k_ups[k], j_ups[j])]
    return pairs


def _joined(word, statements):
    """The statements put together by the word; there is one at least."""
    whole = statements[0]
    for a in statements[1:]:
        whole = (word, whole, a)
    return whole


def _row(growth, a):
    """The statement, behind its joints and the stands at which it holds."""
    return (joints(a), where(growth, rows_of([a]))[-1], a)


def _teller(found, k, j):
    """The row of a statement that holds at just one of the stands k and j, or None."""
    fit = [row for row in found if has(row[1], k) != has(row[1], j)]
    return min(fit, key=lambda row: row[0]) if fit else None


def _is_told(found, k, j):
    """Whether a statement that is found holds at j and not at k."""
    return any([has(row[1], j) and not has(row[1], k) for row in found])


def _then_between(found, k, j_up):
    """A then that does not hold at k, but at all stands of j_up, those at or above one stand.

    None, where some of them are not told from k yet by a statement that is found.
    """
    held = []
    lacking = []
    # The stands at which all that is held holds, and nothing that is lacking does.
    left = j_up
    while left:
        row = _teller(found, k, left[0])
        if row is None:
            return None
        _, stands, a = row
        if has(stands, k):
            held.append(a)
        else:
            lacking.append(a)
        left = [j for j in left if has(stands, j) == has(stands, k)]
    return ("then", _joined("and", held), _joined("or", lacking or [("never",)]))


def _apart(one, other):
    """A statement that holds at the first stand of just one of both growths, which are not like."""
    growth = under([cut(one, 0), cut(other, 0)], [])
    first, second = growth[0][1]
    ups = [above(growth, k) for k in range(len(growth))]
    pairs = [(k, j) for k in ups[first] for j in ups[second]]
    pairs = pairs + [(j, k) for k, j in pairs]
    names = sorted({name for stand in growth for name in stand[0]})
    found = [_row(growth, ("letter", name)) for name in names]
    while _teller(found, first, second) is None:
        for k, j in pairs:
            a = None if _is_told(found, k, j) else _then_between(found, k, ups[j])
            if a is not None:
                found.append(_row(growth, a))
    return _teller(found, first, second)[2]


def compared(one, other):
    """("like", pairs) where the first stands of both growths are like, else ("apart", a)."""
    if len(one) > MOST or len(other) > MOST:
        raise TooLarge("growths of more than six stands are not compared")
    pairs = _like(one, other)
    if (0, 0) in pairs:
        return ("like", sorted(pairs))
    return ("apart", _apart(one, other))
