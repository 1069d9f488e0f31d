"""Sheets read as papers."""

from onlybuilt.bounds import look_at_measures
from onlybuilt.boxes import Reading
from onlybuilt.drawn import drawn, measures
from onlybuilt.errors import BadRow, NoText
from onlybuilt.reader import read


def _split(row, number):
    """In how many boxes the row stands, its statement's text and its reason; BadRow where it has none."""
    boxes = 0
    while row[2 * boxes:2 * boxes + 2] == "| ":
        boxes += 1
    ahead = f"{number}. "
    behind = row[2 * boxes:]
    text, by, reason = behind[len(ahead):].rpartition(" by ")
    if not behind.startswith(ahead) or by == "":
        raise BadRow(number)
    return boxes, text, reason


def _statement(text, number):
    """The statement of the row's text."""
    try:
        return read(text)
    except NoText:
        raise BadRow(number) from None


def read_sheet(rows):
    """The givens of the sheet, the statement of its last row, and a paper that shows it from them."""
    reading = Reading()
    for number, row in enumerate(rows, start=1):
        boxes, text, reason = _split(row, number)
        word, *numbers = reason.split(" ")
        if not reading.takes(boxes, _statement(text, number), word, numbers):
            raise BadRow(number)
    if not rows or reading.level() > 0:
        raise BadRow(len(rows))
    many, depth = measures(reading.lines)
    look_at_measures(many, depth)
    statements = [line[0] for line in reading.lines]
    return statements[:reading.givens], statements[-1], drawn(reading.lines, reading.givens)
