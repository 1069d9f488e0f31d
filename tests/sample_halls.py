"""Halls that the tests ask about, and deeds that are done to them."""

from random import Random

from onlybuilt.hall import Hall
from onlybuilt.seek import seek
from tests import sample_papers, second_steps
from tests.samples import A, B, C, NEVER, both, either, leads

# Names are any texts.
NAMES = ("a", "lemma", "", "two words", "and", "never", "Name", "b)", "zz", "A", "1", " ", "name\nof rows", "\u00e4")

SAME = leads(A, A)
PAPER = ("make", A, ("use", 0))

STATEMENTS = (
    SAME, SAME, SAME, A, both(SAME, SAME), both(SAME, SAME), either(SAME, B), either(SAME, B), leads(B, SAME),
    leads(A, both(A, A)), leads(C, C), NEVER,
)


def name(word):
    return ("name", word)


def hall(**papers):
    """A hall of names that all claim SAME, with papers or None."""
    made = Hall()
    for word in papers:
        made.claim(word, SAME)
    for word, paper in papers.items():
        if paper is not None:
            made.show(word, paper)
    return made


def resting(*words):
    """A paper that shows SAME, and bears the names, which show SAME."""
    paper = PAPER
    for word in words[::-1]:
        paper = ("first", ("pair", name(word), paper))
    return paper


def same_row(names):
    """A hall with a row of names, each of which rests on the one ahead alone."""
    made = Hall()
    for word in names:
        made.claim(word, SAME)
    made.show(names[0], PAPER)
    for ahead, word in zip(names, names[1:]):
        made.show(word, name(ahead))
    return made


def book_of(model):
    return {word: a for word, (a, _) in model.kept.items()}


def some_paper(pick, model, word):
    """A paper for the name, which mostly shows its statement, and mostly bears names."""
    book = book_of(model)
    a = book.get(word, A)
    likes = [("name", other) for other in sorted(book) if book[other] == a]
    kind = pick.randrange(10)
    if kind < 5 and likes:
        paper = pick.choice(likes)
        for _ in range(pick.randrange(3)):
            other = pick.choice([("name", text) for text in sorted(book)])
            paper = pick.choice((
                ("first", ("pair", paper, other)), ("second", ("pair", other, paper)),
                ("apply", ("make", book[other[1]], ("pair", paper, ("use", 0))), other),
                ("first", ("apply", ("make", book[other[1]], ("pair", paper, ("use", 0))), other)),
                ("apply", ("make", a, ("use", 0)), paper),
            ))
        return paper
    if kind < 8:
        told, paper = seek([], a)
        return paper if told == "paper" else PAPER
    if kind == 8:
        return sample_papers.spoiled(pick, sample_papers.Grower(pick.randrange(10 ** 6), book).grown([], 6)[0])
    return sample_papers.Grower(pick.randrange(10 ** 6), book).grown([], pick.randrange(1, 8))[0]


def deeds(seed, many):
    """So many deeds, as tuples of a word and what tells, where the model is handed in, the arguments."""
    pick = Random(seed)
    names = NAMES[:pick.choice((2, 3, 5, len(NAMES)))]
    words = ["claim"] * 4 + ["show"] * 8 + ["drop", "strike", "back", "back"]
    for _ in range(many):
        word = pick.choice(words)
        text = pick.choice(names)
        if word == "claim":
            yield word, lambda model, text=text: (text, pick.choice(STATEMENTS))
        elif word == "show":
            yield word, lambda model, text=text: (text, some_paper(pick, model, text))
        elif word == "back":
            yield word, lambda model: ()
        else:
            yield word, lambda model, text=text: (text,)


def wrapped(pick, p, q):
    """A paper that shows SAME, as both papers do from no givens, and bears what one or both bear."""
    one, other = second_steps.moved(p, 0, 1), second_steps.moved(q, 0, 1)
    return pick.choice((
        ("first", ("pair", p, q)), ("second", ("pair", q, p)), ("apply", ("make", SAME, one), q),
        ("case", ("left", q, B), one, other, SAME), ("case", ("right", B, q), other, ("use", 0), SAME),
    ))


def layered(seed, made, *models):
    """Claim SAME under some names, with papers that mostly bear names claimed ahead."""
    pick = Random(seed)
    names = [f"{pick.choice('abcxyz')}{k}" for k in range(pick.randrange(2, 13))]
    for word in names:
        for kept in (made, *models):
            kept.claim(word, SAME)
    for k, word in enumerate(names):
        paper = PAPER
        for _ in range(pick.randrange(4) if k else 0):
            other = pick.choice(names[:k] if pick.randrange(20) else names)
            paper = wrapped(pick, *pick.sample((paper, name(other)), 2))
        if pick.randrange(15) or k == 0:
            for kept in (made, *models):
                kept.show(word, paper)
    return names
