"""Papers run: one step behind the other."""

from onlybuilt.bounds import MOST_DEPTH
from onlybuilt.forms import PAPERS
from onlybuilt.shifts import deep
from onlybuilt.steps import step


def _is_larger(paper, room):
    """Whether the paper has a greater size than the room."""
    # It is not measured whole, as the next paper of a large one may be far
    # larger than can be counted.
    many = 0
    ahead = [paper]
    while ahead:
        p = ahead.pop()
        many += 1
        if many > room:
            return True
        ahead.extend([p[place] for place in PAPERS[p[0]]])
    return False


def run(many, paper, steps, room):
    """The word of how the run of the paper ends, the paper as it is then, and the steps done."""
    done = 0
    while True:
        ahead = step(many, paper)
        if ahead is None:
            return ("rest", paper, done)
        if done == steps:
            return ("more", paper, done)
        if _is_larger(ahead, room) or deep(ahead) > MOST_DEPTH:
            return ("large", paper, done)
        paper = ahead
        done += 1
