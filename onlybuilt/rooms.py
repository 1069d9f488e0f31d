"""Rooms: how large those are that are looked through."""

from onlybuilt.errors import TooLarge
from onlybuilt.statements import joints, knots

MOST_JOINTS = 10
MOST_KNOTS = 4


def look_at_room(statements):
    """Refuse statements that have together more joints or knots than a room may have."""
    if sum([joints(a) for a in statements]) > MOST_JOINTS:
        raise TooLarge("a room has ten joints at most")
    if sum([knots(a) for a in statements]) > MOST_KNOTS:
        raise TooLarge("a room has four knots at most")
