"""Checks of arguments that several modules need; each raises the error that the document names."""

from settlepages.errors import InvalidAnswers, InvalidNumber, InvalidSign, InvalidSigns, InvalidTable, InvalidText
from settlepages.kinds import are_ascending, can_be_set, is_integer_within, is_sign, is_table, is_text

MOST_ANSWERS = 40
MOST_STEPS = 2000
MOST_SIGNS_OUT_OF = 20


def need_text(value):
    """Raise InvalidText for what is no text."""
    if not is_text(value):
        raise InvalidText("text")


def need_table(value):
    """Raise InvalidTable for what is no table."""
    if not is_table(value):
        raise InvalidTable("table")


def are_answers(value):
    """Return whether any value is a row of at most 40 booleans."""
    if not isinstance(value, tuple) or len(value) > MOST_ANSWERS:
        return False
    return all([isinstance(answer, bool) for answer in value])


def need_answers(value):
    """Raise InvalidAnswers for what is no row of at most 40 booleans."""
    if not are_answers(value):
        raise InvalidAnswers("answers")


def need_number(value, low, high):
    """Raise InvalidNumber for what is no integer from low to high."""
    if not is_integer_within(value, low, high):
        raise InvalidNumber("number")


def need_run(text, answers, most):
    """Check the arguments of a run, from left to right."""
    need_text(text)
    need_answers(answers)
    need_number(most, 0, MOST_STEPS)


def need_set_sign(value):
    """Raise InvalidSign for what is no sign that can be in tables."""
    if not can_be_set(value):
        raise InvalidSign("sign")


def need_signs(value):
    """Raise InvalidSigns for what is no ascending row of at most 20 signs other than the line feed."""
    if not isinstance(value, tuple) or len(value) > MOST_SIGNS_OUT_OF:
        raise InvalidSigns("signs")
    if not all([is_sign(sign) and sign != "\n" for sign in value]):
        raise InvalidSigns("signs")
    if not are_ascending(value):
        raise InvalidSigns("signs")
