"""Growths folded: stands at which the same parts of some statements hold made one."""

from onlybuilt.bits import has
from onlybuilt.growths import above, where
from onlybuilt.statements import rows_of


def _wider(found, parts, chosen):
    """The places in chosen of the stands at which all of the parts hold."""
    # The sets are compared through the stands, as they may have many parts.
    stands = -1
    for n in parts:
        stands = stands & found[n]
    return [place for place, k in enumerate(chosen) if has(stands, k)]


def _letters(rows, parts):
    """The names of the letters among the parts, sorted."""
    return sorted([rows[n][1] for n in parts if rows[n][0] == "letter"])


def folded(growth, statements):
    """The growth folded by the statements, and the place in it of each stand."""
    rows = rows_of(statements)
    found = where(growth, rows)
    sets = {}
    least = {}
    for k in above(growth, 0):
        parts = tuple([n for n in range(len(rows)) if has(found[n], k)])
        sets[k] = parts
        least.setdefault(parts, k)
    # One stand for each set, those of fewer parts first.
    chosen = [k for _, k in sorted([(len(parts), k) for parts, k in least.items()])]
    number = {sets[k]: place for place, k in enumerate(chosen)}
    stands = []
    for place, k in enumerate(chosen):
        wider = [j for j in _wider(found, sets[k], chosen) if j != place]
        stands.append((_letters(rows, sets[k]), wider))
    return stands, {k: number[parts] for k, parts in sets.items()}
