"""Rules that are worked out when they are made, and when they are used."""

from settlepages.doing import are_tests_paired, body_told
from settlepages.errors import InvalidUses, Refused
from settlepages.keyvalues import are_ends, is_name_of_signs
from settlepages.meanings import is_word
from settlepages.rowcodes import code_of
from settlepages.rowworks import all_cases, end_of_row, is_plain_row, need_choices, need_values, run_with
from settlepages.rowworks import values_of_case
from settlepages.runstate import Fault

MOST_USES = 4


def are_rows_of_uses(value):
    """Return whether any value is a row of 1 to 4 plain rows."""
    return isinstance(value, tuple) and 1 <= len(value) <= MOST_USES and all([is_plain_row(row) for row in value])


def is_case_of_rules(value):
    """Return whether any value is a case of rules."""
    if not isinstance(value, tuple) or len(value) != 4:
        return False
    word, ends, row, rows = value
    if not is_name_of_signs(word) or is_word(word):
        return False
    return are_ends(ends) and is_plain_row(row) and are_rows_of_uses(rows)


def need_uses(values, choices, value):
    """Raise InvalidUses for what is no case of rules, or one whose name is a key of the values or the choices."""
    if not is_case_of_rules(value):
        raise InvalidUses("uses")
    name = ("name", value[0])
    if name in [pair[0] for pair in values + choices]:
        raise InvalidUses("name")


def rule_told(values, ends, tokens):
    """Return the rule that a row of tokens tells with values."""
    try:
        body = body_told(tokens, len(ends))
    except Fault as fault:
        raise Refused(fault.word) from None
    if not are_tests_paired(run_with(values, ()), tokens):
        raise Refused("rule")
    return ("rule", ends, body)


def made_early(values, uses):
    """Return the rule that is worked out when it is made."""
    _, ends, row, _ = uses
    end = end_of_row(values, row, ())
    if end[0] == "error":
        raise Refused(end[1])
    if end[0] == "more":
        raise Refused("more")
    return rule_told(values, ends, end[1])


def made_late(values, uses):
    """Return the rule that is worked out when it is used."""
    return rule_told(values, uses[1], uses[2])


def rule_early(values, uses):
    """Return the rule early of a case of rules."""
    need_values(values)
    need_uses(values, (), uses)
    return made_early(values, uses)


def rule_late(values, uses):
    """Return the rule late of a case of rules."""
    need_values(values)
    need_uses(values, (), uses)
    return made_late(values, uses)


def values_with_both(values, choices, uses):
    """Check a case of rules, and return the values with the rule early, and with the rule late."""
    need_values(values)
    need_choices(choices)
    need_uses(values, choices, uses)
    name = ("name", uses[0])
    early = made_early(values, uses)
    late = made_late(values, uses)
    return values + ((name, early),), values + ((name, late),)


def unlike_use(values, choices, uses):
    """Return any pair of a use and of a case in which it comes to unlike ends with both rules, or None."""
    early, late = values_with_both(values, choices, uses)
    for case in all_cases(choices):
        with_early = values_of_case(early, choices, case)
        with_late = values_of_case(late, choices, case)
        for index, row in enumerate(uses[3]):
            if end_of_row(with_early, row, ()) != end_of_row(with_late, row, ()):
                return (index, case)
    return None


def use_codes(values, choices, uses):
    """Return the list of the pairs of the least codes of each use, early and late."""
    early, late = values_with_both(values, choices, uses)
    return [(code_of(early, choices, row, ()), code_of(late, choices, row, ())) for row in uses[3]]
