"""Growths that bar a part: the facts hold at their first stands, and the part does not.

A stand of such a growth is told by its facts: those that are wide, without
never, and have a part of each or that is one of them.
"""

from onlybuilt.bits import has


def _is_shown(search, facts, g):
    return search.way(facts, g) is not None


def _stand(search, facts, g):
    """The facts of a stand at which all facts hold and g does not, and the part of g for which it does not."""
    while True:
        facts = search.wide(facts)[0]
        row = search.rows[g]
        x = search.unsplit(facts)
        if row[0] == "and":
            g = row[2] if _is_shown(search, facts, row[1]) else row[1]
        elif row[0] == "then":
            facts = facts | 1 << row[1]
            g = row[2]
        elif x is None:
            return facts, g
        else:
            _, a, b = search.rows[x]
            facts = facts | 1 << (b if _is_shown(search, facts | 1 << a, g) else a)


def _steps(search, facts, g):
    """The rows of the thens, whose left parts are no facts, that hinder g from holding at the stand of the facts."""
    found = []
    ahead = [g]
    while ahead:
        row = search.rows[ahead.pop()]
        if row[0] == "and":
            ahead.append(row[2] if _is_shown(search, facts, row[1]) else row[1])
        elif row[0] == "or":
            ahead.append(row[1])
            ahead.append(row[2])
        elif row[0] == "then" and has(facts, row[1]):
            ahead.append(row[2])
        elif row[0] == "then":
            found.append(row)
    return found


def _barred_at(search, facts):
    """The left parts of the thens among the facts whose right parts are none."""
    thens = [row for k, row in enumerate(search.rows) if row[0] == "then" and has(facts, k)]
    return [row[1] for row in thens if not has(facts, row[2])]


def _above(search, facts, g):
    """For each stand, from the first one on, the stands to which a step leads from it."""
    first = _stand(search, facts, g)
    above = {}
    ahead = [first]
    done = {first: True}
    while ahead:
        here, part = ahead.pop()
        steps = above.setdefault(here, {})
        for barred in [part, *_barred_at(search, here)]:
            for _, a, b in _steps(search, here, barred):
                there = _stand(search, here | 1 << a, b)
                steps[there[0]] = True
                if there not in done:
                    done[there] = True
                    ahead.append(there)
    return above


def barring(search, facts, g):
    """A growth at whose first stand all facts hold and the part g does not; there is no way to it."""
    above = _above(search, facts, g)
    # The facts of a stand are among those of each one above, so that as
    # numbers these are greater.
    stands = sorted(above)
    place = {stand: k for k, stand in enumerate(stands)}
    growth = []
    for stand in stands:
        names = [row[1] for k, row in enumerate(search.rows) if row[0] == "letter" and has(stand, k)]
        growth.append((sorted(names), sorted([place[there] for there in above[stand]])))
    return growth
