"""Papers run: one step behind the other."""

from onlybuilt.shifts import deep, size
from onlybuilt.steps import step

MOST_DEEP = 200


def run(many, paper, steps, room):
    """The word of how the run of the paper ends, the paper as it is then, and the steps done."""
    done = 0
    while True:
        ahead = step(many, paper)
        if ahead is None:
            return ("rest", paper, done)
        if done == steps:
            return ("more", paper, done)
        if size(ahead) > room or deep(ahead) > MOST_DEEP:
            return ("large", paper, done)
        paper = ahead
        done += 1
