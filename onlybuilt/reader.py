"""Texts read as statements."""

from onlybuilt.errors import NoText
from onlybuilt.words import is_name

JOINTS = ("and", "or", "then")


def _words(text):
    """The words and the brackets of the text, in their order."""
    # Only the blank parts words: any other sign belongs to one.
    spread = text.replace("(", " ( ").replace(")", " ) ")
    return [word for word in spread.split(" ") if word]


def _item(word):
    """A joint's word as it is; any other word as the statement that it tells."""
    if word in JOINTS:
        return word
    if word == "never":
        return ("never",)
    if is_name(word):
        return ("letter", word)
    raise NoText(f"{word} is no name")


def _parted(row, word):
    """The stretches of the row between the places where the word stands."""
    stretches = [[]]
    for item in row:
        if item == word:
            stretches.append([])
        else:
            stretches[-1].append(item)
    return stretches


def _from_left(word, things):
    """The statements put together by the word, the first two first."""
    whole, *behind = things
    for right in behind:
        whole = (word, whole, right)
    return whole


def _thing(row):
    """The one statement that the row has."""
    if len(row) != 1:
        raise NoText("one thing must stand here")
    return row[0]


def _row_of_ands(row):
    """The statement of things parted by and."""
    return _from_left("and", [_thing(part) for part in _parted(row, "and")])


def _row_of_ors(row):
    """The statement of rows of ands parted by or."""
    return _from_left("or", [_row_of_ands(part) for part in _parted(row, "or")])


def _statement(row):
    """The statement of rows of ors parted by then."""
    *ahead, whole = [_row_of_ors(part) for part in _parted(row, "then")]
    for left in reversed(ahead):
        whole = ("then", left, whole)
    return whole


def read(text):
    """The statement that the text tells; NoText where it tells none."""
    # The row read now is the last one: each bracket that is open yet has a
    # row of its own, the outermost row has no bracket.
    rows = [[]]
    for word in _words(text):
        if word == "(":
            rows.append([])
        elif word == ")":
            if len(rows) == 1:
                raise NoText("a bracket is closed that is not open")
            whole = _statement(rows.pop())
            rows[-1].append(whole)
        else:
            rows[-1].append(_item(word))
    if len(rows) > 1:
        raise NoText("a bracket is not closed")
    return _statement(rows[0])
