"""Rooms: how large those are that are looked through, and what is found in them."""

from onlybuilt.bars import barring
from onlybuilt.bits import together
from onlybuilt.errors import TooLarge
from onlybuilt.search import Search
from onlybuilt.statements import joints, knots

MOST_JOINTS = 10
MOST_KNOTS = 4


def _look_at_size(statements):
    """Refuse statements that have together more joints or knots than a room may have."""
    if sum([joints(a) for a in statements]) > MOST_JOINTS:
        raise TooLarge("a room has ten joints at most")
    if sum([knots(a) for a in statements]) > MOST_KNOTS:
        raise TooLarge("a room has four knots at most")


def looked_through(givens, goal):
    """The search of the room, a way from its givens to its goal or None, and a growth that bars it or None."""
    _look_at_size([*givens, goal])
    search = Search([*givens, goal])
    *places, g = search.places
    facts = together(places)
    way = search.way(facts, g)
    growth = barring(search, facts, g) if way is None else None
    return search, way, growth
