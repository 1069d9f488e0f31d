"""How large papers that are told may be."""

from onlybuilt.errors import TooLarge

MOST_SIZE = 2000
MOST_DEPTH = 200


def look_at_measures(many, depth):
    """Refuse a paper of so great a size, or of that depth."""
    if many > MOST_SIZE or depth > MOST_DEPTH:
        raise TooLarge("the paper is too large")
