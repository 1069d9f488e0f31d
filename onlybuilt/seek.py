"""Either a paper that shows a goal from givens, or a growth that bars it."""

from onlybuilt.rooms import looked_through
from onlybuilt.ways import Writer, uses


def seek(givens, goal):
    """("paper", p), p showing the goal from the givens, or ("growth", g), g barring it."""
    search, way, growth = looked_through(givens, goal)
    if way is None:
        return ("growth", growth)
    places = search.places[:-1]
    return ("paper", Writer(search.rows).written(way, uses(places), len(places)))
