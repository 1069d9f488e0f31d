"""What points 6 to 9 promise, told a second time and otherwise than the program does it.

All of it calls itself over the parts of a statement or a text, straight as
the document tells it; the tests compare the program with it.
"""

import re


def is_statement(a):
    if not isinstance(a, tuple) or a[0] not in ("letter", "never", "and", "or", "then"):
        return False
    if a[0] == "letter":
        return len(a) == 2 and bool(re.fullmatch("[a-z]{1,8}", a[1]))
    if a[0] == "never":
        return len(a) == 1
    return len(a) == 3 and is_statement(a[1]) and is_statement(a[2])


def joints(a):
    return 0 if len(a) < 3 else 1 + joints(a[1]) + joints(a[2])


def nested(a):
    return 0 if len(a) < 3 else 1 + max(nested(a[1]), nested(a[2]))


def words_in(a, word):
    """How often a joint of that word stands in a."""
    if len(a) < 3:
        return 0
    return (a[0] == word) + words_in(a[1], word) + words_in(a[2], word)


def inner_thens(a):
    """The thens that stand in the left part of a then."""
    if len(a) < 3:
        return 0
    if a[0] == "then":
        return words_in(a[1], "then") + inner_thens(a[2])
    return inner_thens(a[1]) + inner_thens(a[2])


def knots(a):
    return words_in(a, "or") + inner_thens(a)


def letters(a):
    if a[0] == "letter":
        return [a[1]]
    return sorted(set(name for part in a[1:] for name in letters(part)))


def parts(a):
    found = [a]
    for half in a[1:] if len(a) == 3 else ():
        found += [part for part in parts(half) if part not in found]
    return found


def turned(a, book):
    if a[0] == "letter":
        return book.get(a[1], a)
    return (a[0], *[turned(part, book) for part in a[1:]])


LEVELS = {"then": 1, "or": 2, "and": 3, "letter": 4, "never": 4}


def told(a, least=1):
    if len(a) < 3:
        return a[-1]
    level = LEVELS[a[0]]
    left, right = (level + 1, level) if a[0] == "then" else (level, level + 1)
    text = f"{told(a[1], left)} {a[0]} {told(a[2], right)}"
    return text if level >= least else f"({text})"


class Wrong(Exception):
    pass


def read(text):
    words = re.findall("[()]|[^() ]+", text) + ["end"]
    a, at = _thens(words, 0)
    if at != len(words) - 1:
        raise Wrong
    return a


def _thens(words, at):
    left, at = _ors(words, at)
    if words[at] != "then":
        return left, at
    right, at = _thens(words, at + 1)
    return ("then", left, right), at


def _ors(words, at):
    left, at = _ands(words, at)
    while words[at] == "or":
        right, at = _ands(words, at + 1)
        left = ("or", left, right)
    return left, at


def _ands(words, at):
    left, at = _thing(words, at)
    while words[at] == "and":
        right, at = _thing(words, at + 1)
        left = ("and", left, right)
    return left, at


def _thing(words, at):
    word = words[at]
    if word == "(":
        a, at = _thens(words, at + 1)
        if words[at] != ")":
            raise Wrong
        return a, at + 1
    if at == len(words) - 1 or word in ("and", "or", "then"):
        raise Wrong
    if word == "never":
        return ("never",), at + 1
    if not re.fullmatch("[a-z]{1,8}", word):
        raise Wrong
    return ("letter", word), at + 1
