"""The reasons of the rows of sheets: what each one names, and what it asks.

A reason asks something of the row's statement a, and of the statements of what
it names: of a row what it tells, of a box what it assumes and what its end
tells, one behind the other.
"""

from onlybuilt.statements import same

# For each reason what the numbers behind it name, in order.
NAMES = {
    "given": (),
    "assumed": (),
    "pair": ("row", "row"),
    "first": ("row",),
    "second": ("row",),
    "left": ("row",),
    "right": ("row",),
    "apply": ("row", "row"),
    "escape": ("row",),
    "make": ("box",),
    "case": ("row", "box", "box"),
    "again": ("row",),
}


def _is_joint(a, word, left, right):
    """Whether a is the joint of the word with that left and that right part."""
    return a[0] == word and same(a[1], left) and same(a[2], right)


def _free(a):
    return True


def _pair(a, left, right):
    return _is_joint(a, "and", left, right)


def _first(a, shown):
    return shown[0] == "and" and same(shown[1], a)


def _second(a, shown):
    return shown[0] == "and" and same(shown[2], a)


def _left(a, shown):
    return a[0] == "or" and same(a[1], shown)


def _right(a, shown):
    return a[0] == "or" and same(a[2], shown)


def _apply(a, shown, left):
    return _is_joint(shown, "then", left, a)


def _escape(a, shown):
    return shown[0] == "never"


def _make(a, assumed, end):
    return _is_joint(a, "then", assumed, end)


def _again(a, shown):
    return same(a, shown)


def _case(a, shown, left, left_end, right, right_end):
    return _is_joint(shown, "or", left, right) and same(left_end, a) and same(right_end, a)


ASKS = {
    "given": _free,
    "assumed": _free,
    "pair": _pair,
    "first": _first,
    "second": _second,
    "left": _left,
    "right": _right,
    "apply": _apply,
    "escape": _escape,
    "make": _make,
    "case": _case,
    "again": _again,
}


def fits(word, a, named):
    """Whether the statement a may stand with the reason, the statements of what it names being told."""
    ask = ASKS[word]
    return ask(a, *named)
