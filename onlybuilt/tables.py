"""The table of yes and no: truth at its rows, and what is shown by it."""

from onlybuilt.doubles import doubled
from onlybuilt.growths import above, holds, seen
from onlybuilt.seek import seek


def true_at(row, a):
    """Whether a is true where just the letters of the row are."""
    return holds([(row, [])], 0, a)


def twice(givens, goal):
    """("paper", p), p showing the goal doubled from the givens, or ("row", names), a row that bars the goal."""
    word, told = seek(givens, doubled(goal))
    if word == "paper":
        return (word, told)
    # At the first stand the goal doubled does not hold, so that the goal holds
    # at no stand above some stand. At a stand with none above it a statement
    # holds just where it is true at the row of its names.
    held = seen(told, goal)
    tops = [k for k in above(told, 0) if not told[k][1] and not held[k]]
    return ("row", told[tops[0]][0])
