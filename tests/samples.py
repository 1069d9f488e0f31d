"""Statements that the tests ask about."""

from random import Random

WORDS = ("and", "or", "then")
NEVER = ("never",)


def letter(name):
    return ("letter", name)


A, B, C, D, E = [letter(name) for name in "abcde"]
X, Y, Z, W = [letter(name) for name in "xyzw"]


def both(a, b):
    return ("and", a, b)


def either(a, b):
    return ("or", a, b)


def leads(a, b):
    return ("then", a, b)


def all_with(many, leaves):
    """All statements of just so many joints over the leaves."""
    if many == 0:
        return list(leaves)
    return [
        (word, left, right)
        for at_left in range(many)
        for left in all_with(at_left, leaves)
        for right in all_with(many - 1 - at_left, leaves)
        for word in WORDS
    ]


def small():
    """All statements of at most two joints, and some of three."""
    return [
        *all_with(0, (A, B, NEVER)),
        *all_with(1, (A, B, NEVER)),
        *all_with(2, (A, B, NEVER)),
        *all_with(3, (A,)),
        *all_with(3, (NEVER,)),
    ]


def scattered(pick, many, leaves):
    """A statement of just so many joints, put together as pick, a Random, says."""
    if many == 0:
        return pick.choice(leaves)
    at_left = pick.randrange(many)
    left = scattered(pick, at_left, leaves)
    right = scattered(pick, many - 1 - at_left, leaves)
    return (pick.choice(WORDS), left, right)


LEAVES = (A, B, C, D, E, NEVER, letter("by"), letter("ands"), letter("abcdefgh"))


def middling():
    """Statements of none to some twenty joints."""
    pick = Random(1)
    return [scattered(pick, many, LEAVES) for many in range(23) for _ in range(12)]


def deep(seed):
    """A statement nested 40 deep, of 100 joints."""
    pick = Random(seed)
    spine = pick.choice(LEAVES)
    for level in range(1, 41):
        side = scattered(pick, 3 if level > 20 else 0, LEAVES)
        pair = pick.choice(((side, spine), (spine, side)))
        spine = (pick.choice(WORDS), *pair)
    return spine


def deepest():
    """Statements at the bounds: nested 40 deep, of 100 joints."""
    one_sided = []
    for word in WORDS:
        at_left = at_right = A
        for _ in range(40):
            at_left = (word, at_left, B)
            at_right = (word, B, at_right)
        one_sided += [at_left, at_right]
    return [deep(seed) for seed in range(12)] + one_sided


def every():
    return small() + middling() + deepest()
