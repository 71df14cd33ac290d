"""Walks: runs of texts that have done so many steps, and that go further, and back."""

from settlepages.checks import MOST_STEPS, are_answers, need_number
from settlepages.errors import InvalidWalk
from settlepages.kinds import is_integer_within, is_text
from settlepages.runs import ran_unchecked


def run_of_walk(text, answers, most):
    """Return the run of a text when it has ended, with so many steps let."""
    return ran_unchecked(text, answers, most)[0]


def is_walk(value):
    """Return whether any value is a walk."""
    if not isinstance(value, tuple) or len(value) != 3:
        return False
    text, answers, steps = value
    if not is_text(text) or not are_answers(answers) or not is_integer_within(steps, 0, MOST_STEPS):
        return False
    return run_of_walk(text, answers, steps).steps == steps


def need_walk(value):
    """Raise InvalidWalk for what is no walk."""
    if not is_walk(value):
        raise InvalidWalk("walk")


def walk_ended(walk):
    """Return whether a walk is at its end."""
    need_walk(walk)
    text, answers, steps = walk
    return run_of_walk(text, answers, steps + 1).steps == steps


def gone_further(walk, many):
    """Return a walk with so many steps more, or as many as are done."""
    need_walk(walk)
    need_number(many, 0, MOST_STEPS)
    text, answers, steps = walk
    return (text, answers, run_of_walk(text, answers, min(MOST_STEPS, steps + many)).steps)


def gone_back(walk, many):
    """Return a walk with so many steps less."""
    need_walk(walk)
    text, answers, steps = walk
    need_number(many, 0, steps)
    return (text, answers, steps - many)
