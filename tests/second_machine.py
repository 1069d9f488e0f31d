"""What points 41 to 44 promise, told a second time, straight as the document tells it."""

from tests import second_steps


def stretch(paper):
    """The stretch of the paper; in it rows of makes and cases have the papers apart in the place of numbers."""
    word = paper[0]
    if word == "use":
        return [("take", paper[1])]
    if word in ("pair", "apply"):
        return [*stretch(paper[1]), *stretch(paper[2]), (word,)]
    if word in ("first", "second", "left", "escape"):
        return [*stretch(paper[1]), (word,)]
    if word == "right":
        return [*stretch(paper[2]), (word,)]
    if word == "make":
        return [("make", paper[2])]
    return [*stretch(paper[1]), ("case", paper[2], paper[3])]


def code(paper):
    rows = [*stretch(paper), ("back",)]
    at = 0
    while at < len(rows):
        if rows[at][0] in ("make", "case"):
            numbers = []
            for apart in rows[at][1:]:
                numbers.append(len(rows))
                rows += [*stretch(apart), ("back",)]
            rows[at] = (rows[at][0], *numbers)
        at += 1
    return rows


def shape(value):
    if value[0] == "pair":
        return ("pair", shape(value[1]), shape(value[2]))
    if value[0] in ("left", "right"):
        return (value[0], shape(value[1]))
    return ("make",)


def run_code(rows, most):
    place, given, values, ways = 0, [], [], []
    for done in range(1, most + 1):
        row = rows[place]
        word = row[0]
        place += 1
        if word == "take":
            values.append(given[row[1]])
        elif word == "pair":
            v, u = values.pop(), values.pop()
            values.append(("pair", u, v))
        elif word in ("first", "second"):
            values.append(values.pop()[1 if word == "first" else 2])
        elif word in ("left", "right"):
            values.append((word, values.pop()))
        elif word == "make":
            values.append(("make", row[1], given))
        elif word == "apply":
            v, made = values.pop(), values.pop()
            ways.append((place, given))
            place, given = made[1], [*made[2], v]
        elif word == "case":
            u = values.pop()
            ways.append((place, given))
            given = [*given, u[1]]
            place = row[1] if u[0] == "left" else row[2]
        elif word == "back":
            if not ways:
                [last] = values
                return shape(last), done
            place, given = ways.pop()
    return ("more",), most


def shape_at_rest(paper):
    """The shape of the paper that comes of this one by steps and is at rest."""
    following = paper
    while following is not None:
        paper, following = following, second_steps.step(0, following)
    return rest_shape(paper)


def rest_shape(paper):
    if paper[0] == "pair":
        return ("pair", rest_shape(paper[1]), rest_shape(paper[2]))
    if paper[0] == "left":
        return ("left", rest_shape(paper[1]))
    if paper[0] == "right":
        return ("right", rest_shape(paper[2]))
    return ("make",)
