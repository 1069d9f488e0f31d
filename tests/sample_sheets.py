"""Sheets that the tests ask about, and spoiled ones."""

from random import Random

from onlybuilt.sheets import sheet
from tests import sample_papers

REASONS = (
    "given", "assumed", "pair", "first", "second", "left", "right", "make", "apply", "case", "escape", "again",
    "use", "name", "Given", "",
)


def told(many=200, most=16):
    """Sheets of papers of every word, from some givens or none."""
    found = [sheet(givens, paper) for givens, paper, _ in sample_papers.papers(many=many, most=most)]
    for seed in range(many // 2):
        found.append(sheet([], sample_papers.Grower(seed, {}).grown([], 1 + seed % most)[0]))
    return found


def spoiled_row(pick, row):
    """The row with one thing made another one; at times it is right nevertheless."""
    ahead, _, behind = row.rpartition(" by ")
    words = behind.split(" ")
    kind = pick.randrange(12)
    if kind == 0:
        return "| " + row
    if kind == 1:
        return row[2:] if row.startswith("| ") else row[1:]
    if kind in (2, 3):
        at = pick.randrange(len(words))
        words[at] = str(pick.randrange(0, 14)) if at else pick.choice(REASONS)
        return f"{ahead} by {' '.join(words)}"
    if kind == 4:
        return f"{ahead} by {' '.join([*words, str(pick.randrange(1, 9))])}"
    if kind == 5:
        return f"{ahead} by {' '.join(words[:-1])}"
    if kind == 6:
        at = pick.randrange(len(row) + 1)
        return row[:at] + pick.choice(" |().0a+-\t") + row[at:]
    if kind == 7:
        at = pick.randrange(len(row))
        return row[:at] + row[at + 1:]
    if kind == 8:
        at = pick.randrange(len(row))
        return row[:at] + pick.choice("abc 019|.()") + row[at + 1:]
    if kind == 9:
        start, dot, text = ahead.partition(". ")
        return f"{start}{dot}({text}) by {behind}"
    if kind == 10:
        return row.replace(pick.choice("abc"), pick.choice("abc"))
    words[0] = pick.choice(REASONS)
    return f"{ahead} by {' '.join(words)}"


def spoiled(pick, rows):
    """The sheet with one or two things made others; at times it is right nevertheless."""
    rows = list(rows)
    for _ in range(pick.choice((1, 1, 1, 2))):
        at = pick.randrange(len(rows))
        kind = pick.randrange(10)
        if kind == 0 and len(rows) > 1:
            del rows[at]
        elif kind == 1:
            rows.insert(at, rows[pick.randrange(len(rows))])
        elif kind == 2:
            other = pick.randrange(len(rows))
            rows[at], rows[other] = rows[other], rows[at]
        elif kind == 3 and len(rows) > 1:
            rows = rows[:max(1, at)]
        else:
            rows[at] = spoiled_row(pick, rows[at])
    return rows


def all_spoiled(seed, many):
    """So many spoiled sheets."""
    pick = Random(seed)
    sheets = told()
    return [spoiled(pick, pick.choice(sheets)) for _ in range(many)]


def numbered(texts):
    """Rows with their numbers, which stand as # in the texts."""
    return [text.replace("#", str(place)) for place, text in enumerate(texts, start=1)]


def doubling(many):
    """Rows whose papers become larger by twice each time: that of the last one has a size of 2 ** (many + 1) - ..."""
    rows = ["1. a by given"]
    for k in range(many):
        at = len(rows)
        rows.append(f"{at + 1}. a and a by pair {at} {at}")
        rows.append(f"{at + 2}. a by first {at + 1}")
    return rows
