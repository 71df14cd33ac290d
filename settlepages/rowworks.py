"""Rows that are worked out with values, and cases of choices that change values."""

from settlepages.checks import need_answers
from settlepages.errors import InvalidCase, InvalidChoices, InvalidRow, InvalidValues
from settlepages.keyvalues import LONGEST_PLAIN_ROW, are_values_of_level, can_have, is_key, is_pair, is_row_of_tokens
from settlepages.kinds import are_ascending, is_integer_within
from settlepages.meanings import level_of, value_at_first
from settlepages.runstate import CUT_FROM_TEXT, Fault, OutOfSteps, Run
from settlepages.working import rest_of_row

MOST_STEPS_OF_ROW = 200
MOST_CHOICES = 6
MOST_OPTIONS = 4
MOST_CASES = 256
END_OF_ROW = (2, ")")


def are_values(value):
    """Return whether any value is values."""
    return are_values_of_level(value)


def is_plain_row(value):
    """Return whether any value is a plain row."""
    return is_row_of_tokens(value, LONGEST_PLAIN_ROW)


def are_options(key, value):
    """Return whether any value is a row of 1 to 4 unlike values that a key can have."""
    if not isinstance(value, tuple) or not 1 <= len(value) <= MOST_OPTIONS:
        return False
    if not all([can_have(key, option) for option in value]):
        return False
    return all([value[at] not in value[:at] for at in range(len(value))])


def is_choice(value):
    """Return whether any value is a pair (key, options)."""
    return is_pair(value) and is_key(value[0]) and are_options(value[0], value[1])


def are_choices(value):
    """Return whether any value is choices."""
    if not isinstance(value, tuple) or len(value) > MOST_CHOICES or not all([is_choice(pair) for pair in value]):
        return False
    many = 1
    for _, options in value:
        many = many * len(options)
    return many <= MOST_CASES and are_ascending([pair[0] for pair in value])


def is_case(choices, value):
    """Return whether any value is a case of choices."""
    if not isinstance(value, tuple) or len(value) != len(choices):
        return False
    return all([is_integer_within(at, 0, len(pair[1]) - 1) for at, pair in zip(value, choices)])


def need_values(value):
    """Raise InvalidValues for what is no values."""
    if not are_values(value):
        raise InvalidValues("values")


def need_plain_row(value):
    """Raise InvalidRow for what is no plain row."""
    if not is_plain_row(value):
        raise InvalidRow("row")


def need_choices(value):
    """Raise InvalidChoices for what is no choices."""
    if not are_choices(value):
        raise InvalidChoices("choices")


def need_case(choices, value):
    """Raise InvalidCase for what is no case of choices."""
    if not is_case(choices, value):
        raise InvalidCase("case")


def run_with(values, answers):
    """Return a run without a text, in which values are in force."""
    run = Run("", answers, MOST_STEPS_OF_ROW)
    run.level_row = [level_of(("text", values, ()))]
    return run


def end_of_row(values, row, answers):
    """Return the end to which a row comes that is worked out with values and answers."""
    run = run_with(values, answers)
    run.put_ahead(row + (END_OF_ROW,), CUT_FROM_TEXT)
    try:
        return ("row", rest_of_row(run, True))
    except Fault as fault:
        return ("error", fault.word)
    except OutOfSteps:
        return ("more",)


def values_of_case(values, choices, case):
    """Return the values that a case changes; a key that has its value at the beginning is not told."""
    told = {key: value for key, value in values}
    for at, pair in zip(case, choices):
        told[pair[0]] = pair[1][at]
    return tuple([(key, told[key]) for key in sorted(told) if told[key] != value_at_first(key)])


def all_cases(choices):
    """Return the list of all cases of choices, in order."""
    cases = [()]
    for pair in choices:
        cases = [case + (at,) for case in cases for at in range(len(pair[1]))]
    return cases


def row_worked(values, row, answers):
    """Return the end to which a row comes."""
    need_values(values)
    need_plain_row(row)
    need_answers(answers)
    return end_of_row(values, row, answers)


def changed_values(values, choices, case):
    """Return the values that a case changes."""
    need_values(values)
    need_choices(choices)
    need_case(choices, case)
    return values_of_case(values, choices, case)
