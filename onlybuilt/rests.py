"""Which names rest on which, and which of them stand.

All of it is told by a book: a dict from each name to the list of the names
that its paper bears, sorted, or to None where it has no paper.
"""

from onlybuilt.forms import papers_within


def borne(paper):
    """The names that the paper bears, each once, sorted."""
    return sorted({p[1] for p in papers_within(paper) if p[0] == "name"})


def standing_in_order(book):
    """The names that stand, each behind all on which it rests."""
    order = {}
    many = -1
    while many != len(order):
        many = len(order)
        for name in sorted(book):
            names = book[name]
            if name not in order and names is not None and all([other in order for other in names]):
                order[name] = True
    return list(order)


def rested_on(book, name):
    """A dict whose keys are the name itself and all names on which it rests, each of which has a paper."""
    found = {name: True}
    ahead = [name]
    while ahead:
        for other in book[ahead.pop()]:
            if other not in found:
                found[other] = True
                ahead.append(other)
    return found


def road_from(book, name, order):
    """A road from a name that is not in the order of those that stand, to a gap or into a round."""
    road = [name]
    while book[road[-1]] is not None and road[-1] not in road[:-1]:
        # Each name of the road does not stand, so that it bears one that does not.
        road.append([other for other in book[road[-1]] if other not in order][0])
    return road
