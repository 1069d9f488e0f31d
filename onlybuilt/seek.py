"""Either a paper that shows a goal from givens, or a growth that bars it."""

from onlybuilt.bars import barring
from onlybuilt.bits import together
from onlybuilt.rooms import look_at_room
from onlybuilt.search import Search
from onlybuilt.ways import Writer


def seek(givens, goal):
    """("paper", p), p showing the goal from the givens, or ("growth", g), g barring it."""
    look_at_room([*givens, goal])
    search = Search([*givens, goal])
    *places, g = search.places
    facts = together(places)
    way = search.way(facts, g)
    if way is None:
        return ("growth", barring(search, facts, g))
    # Of givens that are the same the first one is used.
    had = {}
    for k, place in enumerate(places):
        had.setdefault(place, ("use", k))
    return ("paper", Writer(search.rows).written(way, had, len(places)))
