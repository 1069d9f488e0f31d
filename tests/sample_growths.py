"""Growths that the tests ask about."""

from itertools import chain, combinations, product
from random import Random

# A chain of three stands, at which a comes, and then b.
CHAIN = [([], [1]), (["a"], [2]), (["a", "b"], [])]
# A first stand with two above it, at each of which another letter comes.
FORK = [([], [1, 2]), (["a"], []), (["b"], [])]
# Two ways to one uppermost stand, and a step that goes over some.
DIAMOND = [([], [1, 2, 3]), (["a"], [3]), (["b"], [3]), (["a", "b", "c"], [])]
# The first stand is under 2 and 4 alone.
APART = [([], [2]), (["a"], [3, 4]), (["b"], [4]), (["a"], []), (["a", "b"], [])]
# Nothing is above any stand.
LONE = [(["b"], []), ([], []), (["a", "b"], [])]
DOT = [(["a"], [])]
BARE = [([], [])]

NAMED = (CHAIN, FORK, DIAMOND, APART, LONE, DOT, BARE)


def subsets(items):
    return [list(some) for some in chain(*[combinations(items, n) for n in range(len(items) + 1)])]


def all_of(many, names):
    """All growths of so many stands over the names."""
    stands = [
        [(some, up) for some in subsets(names) for up in subsets(range(k + 1, many))]
        for k in range(many)
    ]
    return [list(growth) for growth in product(*stands) if stay(growth)]


def stay(growth):
    return all(set(some) <= set(growth[j][0]) for some, up in growth for j in up)


def grown(pick, many, names, most=3):
    """A growth of so many stands, put together as pick, a Random, says."""
    stands = []
    for k in range(many - 1, -1, -1):
        behind = range(k + 1, many)
        up = sorted(pick.sample(behind, min(len(behind), pick.randrange(most + 1))))
        common = [name for name in names if all(name in stands[many - 1 - j][0] for j in up)]
        some = [name for name in common if pick.randrange(3)]
        stands.append((some, up))
    return stands[::-1]


def middling():
    """Growths of one to a dozen stands."""
    pick = Random(2)
    return [grown(pick, many, "abcde", most) for many in range(1, 13) for most in (1, 2, 3, 5)]


def chain_of(many, names=()):
    """A chain of so many stands; the letters come one by one, the first of them last."""
    return [
        (sorted(names[many - 1 - k:]) if many - k <= len(names) else [], [k + 1] if k + 1 < many else [])
        for k in range(many)
    ]


def greatest():
    """Growths of 200 stands."""
    pick = Random(3)
    full = [(["a"] if k >= 150 else [], list(range(k + 1, 200))) for k in range(200)]
    fan = [([], list(range(1, 200)))] + [(["a"] if k % 2 else ["b"], []) for k in range(1, 200)]
    return [chain_of(200, "abc"), full, fan, grown(pick, 200, "abcde", 4), grown(pick, 200, "ab", 40)]


def tiny():
    """All growths of one to three stands over one letter, and of one and two over two."""
    return [
        *all_of(1, "a"), *all_of(2, "a"), *all_of(3, "a"), *all_of(1, "ab"), *all_of(2, "ab"),
    ]


def every():
    return [*NAMED, *tiny(), *middling()]
