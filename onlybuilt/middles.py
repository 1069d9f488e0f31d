"""The statement between some statements and what they show together with others."""

from onlybuilt.between import Between
from onlybuilt.bits import together
from onlybuilt.rooms import looked_through
from onlybuilt.ways import Writer, uses


def middle(ones, others, goal):
    """("middle", m, to, back), m standing between the ones and the others with the goal, or ("growth", g)."""
    search, way, growth = looked_through([*ones, *others], goal)
    if way is None:
        return ("growth", growth)
    at_ones, at_others = search.places[:len(ones)], search.places[len(ones):-1]
    between = Between(search.rows)
    # What is on both sides is taken as one of the others, as no middle is needed for it then.
    m, to, back = between.middle(way, together(at_ones) & ~together(at_others))
    writer = Writer(between.rows)
    to_paper = writer.written(to, uses(at_ones), len(ones))
    had = {**uses(at_others), m: ("use", len(others))}
    return ("middle", writer.told[m], to_paper, writer.written(back, had, len(others) + 1))
