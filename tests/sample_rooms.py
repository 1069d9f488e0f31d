"""Rooms that the tests ask about: lists of givens, and goals."""

from random import Random

from onlybuilt.reader import read
from tests import samples, second
from tests.samples import A, B, C, D, NEVER, either

# What is shown from what.
SHOWN = (
    ([], "a then a"), ([], "never then a"), ([], "a then b then a"), ([], "a and b then b and a"),
    ([], "a or b then b or a"), ([], "(a then b then c) then (a then b) then a then c"),
    ([], "((a or (a then never)) then never) then never"), ([], "a then (a then never) then never"),
    ([], "(((a then never) then never) then never) then a then never"),
    ([], "((((a then b) then a) then a) then b) then b"),
    ([], "((a then never) or (b then never)) then a and b then never"),
    ([], "(a or b then never) then (a then never) and (b then never)"),
    (["a then never", "b then never"], "a or b then never"),
    (["a", "a then b"], "b"), (["a and b"], "b"), (["never"], "a"), (["a"], "a"), (["a"], "a or b"),
    (["b"], "a or b"), (["a or b", "a then c", "b then c"], "c"), (["a or b", "a then never"], "b"),
    (["(a or b) and c"], "a and c or b and c"), (["a and c or b and c"], "(a or b) and c"),
    (["a then b and c"], "(a then b) and (a then c)"), (["a and b then c"], "a then b then c"),
    (["a or b then c"], "(a then c) and (b then c)"), (["((a then b) then b) then b"], "a then b"),
    (["(a then b) then c", "b"], "c"), (["(a then b) then never"], "(a then never) then never"),
    (["a then b", "b then c", "c then d", "a"], "d"), (["a", "a", "a"], "a and a"),
    (["(a then a) then b"], "b"), (["a or a"], "a"), (["never or a"], "a"),
    (["a or never or never"], "a"), (["(a then b) or c", "a and (c then b)"], "b"),
    (["(a or (a then never)) then b"], "(b then never) then never"),
    (["a and a"], "a"), (["a then a", "a and a"], "a"), (["never and never"], "b"),
)

# What is not shown from what.
BARRED = (
    ([], "a"), ([], "never"), ([], "a or (a then never)"), ([], "((a then never) then never) then a"),
    ([], "((a then b) then a) then a"), ([], "(a then b) or (b then a)"),
    ([], "(a then never) or ((a then never) then never)"), (["a"], "b"), (["a or b"], "a"),
    (["a then b"], "b"), (["b"], "a and b"), (["a then b", "b"], "a"), (["a then b", "b then a"], "a or b"),
    (["a and b then c"], "(a then c) or (b then c)"), (["a then b or c"], "(a then b) or (a then c)"),
    (["a and b then never"], "(a then never) or (b then never)"), (["(a then b) then never"], "a"),
    (["(a then never) then b or c"], "((a then never) then b) or c"),
    (["(a then b) then c"], "a or c"), (["(a then never) then never"], "a"),
    (["((a or (a then never)) then b)"], "b"), ([], "never or never"), (["a or never or b"], "b"),
    (["(a then b) then a"], "a"), (["(a then b) then b", "(b then a) then a"], "a or b"),
    # Their growths have stands to which several ways lead.
    (["(a then c) then d", "(b then c) then d"], "d"),
    (["(a then d) then e", "(b then d) then e", "(c then d) then e"], "e"),
    (["(a then e) then a", "(b then e) then a", "(c then e) then a", "(d then e) then a"], "e"),
    (["((a then b) then c) then d", "(c then b) then d"], "d or a"),
)


def told(rows):
    return [([read(text) for text in givens], read(goal)) for givens, goal in rows]


def fits(givens, goal):
    whole = [*givens, goal]
    return sum(map(second.joints, whole)) <= 10 and sum(map(second.knots, whole)) <= 4


def small():
    """All goals of at most two joints over three leaves, from no givens, and some from one or two."""
    goals = samples.small()
    pick = Random(13)
    rooms = [([], goal) for goal in goals]
    rooms += [([pick.choice(goals)], pick.choice(goals)) for _ in range(1500)]
    rooms += [([pick.choice(goals), pick.choice(goals)], pick.choice(goals)) for _ in range(1500)]
    return [room for room in rooms if fits(*room)]


def scattered(many, seed):
    """So many rooms of 6 to 10 joints, of just 10 the most."""
    pick = Random(seed)
    rooms = []
    while len(rooms) < many:
        leaves = [*(A, B, C, D)[:pick.randrange(1, 5)], *[NEVER] * pick.randrange(3)]
        left = pick.choice((6, 7, 8, 9, 10, 10, 10, 10))
        givens = []
        for _ in range(pick.choice((0, 0, 1, 2, 3, 6))):
            some = pick.randrange(left + 1)
            givens.append(samples.scattered(pick, some, leaves))
            left -= some
        room = (givens, samples.scattered(pick, left, leaves))
        if fits(*room):
            rooms.append(room)
    return rooms


def at_the_bounds():
    """Rooms of just 10 joints and just 4 knots."""
    texts = (
        (["a or b", "b or c", "c or d", "d or a"], "(a and c) and (b and d) then a and b and c"),
        (["(a then b) then c", "(b then c) then d", "(c then d) then a", "(d then a) then b"], "a and b and c"),
        (["(a then b) then never", "(b then a) then never", "a or b", "c or d"], "a then c then d then a and b"),
        (["a or b or c or d or a", "a then d", "b then d", "c then d"], "d and d and d and d"),
        ([], "(((a then b) then c) then d) then a and b and c or d then never and a and b"),
    )
    return told(texts)


def sixty():
    """Rooms of sixty givens."""
    names = [samples.letter(one + other) for one in "abcdefgh" for other in "pqrstuvw"][:55]
    links = [samples.leads(a, b) for a, b in zip(names[:5], names[1:6])]
    last = samples.both(names[5], samples.both(names[54], names[30]))
    shown = [
        ([*names[10:], *links, *names[:10]], last), ([*names[1:], *links, names[0]], names[5]),
        ([*names, A, B, C, D, NEVER], samples.letter("zz")), ([A] * 60, samples.both(A, A)),
    ]
    barred = [([*names[1:], *links, A], names[0]), ([*names, *links], either(A, NEVER)), ([A] * 60, B)]
    return shown, barred
