"""Names, and statements told as texts."""

KEPT_WORDS = ("and", "or", "then", "never")

# For each joint the words at which its left part stands in brackets, and
# those at which its right part does.
BRACKETS = {
    "and": (("or", "then"), ("and", "or", "then")),
    "or": (("then",), ("or", "then")),
    "then": (("then",), ()),
}


def is_name(text):
    """Whether the text is a name of a letter."""
    if not 1 <= len(text) <= 8 or text in KEPT_WORDS:
        return False
    return all(["a" <= sign <= "z" for sign in text])


def _bracketed(a, words):
    """The pieces of a as a part: in brackets where its word is one of the words."""
    if a[0] in words:
        return ["(", a, ")"]
    return [a]


def _pieces(a):
    """The texts and the two parts of which the text of a joint is made, in their order."""
    word, left, right = a
    at_left, at_right = BRACKETS[word]
    return [*_bracketed(left, at_left), f" {word} ", *_bracketed(right, at_right)]


def told(a):
    """The statement a as a text, with no more brackets than it needs."""
    texts = []
    # A pile in the place of calls, because what the program told may be
    # nested deeper than calls may be.
    ahead = [a]
    while ahead:
        piece = ahead.pop()
        if isinstance(piece, str):
            texts.append(piece)
        elif len(piece) == 3:
            ahead.extend(_pieces(piece)[::-1])
        else:
            # The name of a letter; of never its word.
            texts.append(piece[-1])
    return "".join(texts)
