"""Some of a row of things told as one whole number.

It has the bit 1 << k just where the thing of number k is one of them.
"""


def has(some, k):
    """Whether the thing of number k is one of them."""
    return some >> k & 1 == 1


def without(some, k):
    """All of them but the thing of number k."""
    return some - (1 << k) if has(some, k) else some


def together(numbers):
    """The things of these numbers, of which some may be the same."""
    some = 0
    for k in numbers:
        some = some | 1 << k
    return some
