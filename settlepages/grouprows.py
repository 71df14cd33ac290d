"""Rows of deeds on keys within groups, states, and the deeds of a text."""

from settlepages.errors import InvalidDeeds, InvalidState, TooMany
from settlepages.groupwork import Group, Groups, do_deeds
from settlepages.keyvalues import GREATEST_VALUE, is_key, is_pair, is_row_of_tokens, is_token
from settlepages.kinds import are_ascending, is_integer_within
from settlepages.runs import ran

MOST_DEEDS = 60
MOST_GROUPS = 100
MOST_KEPT = 60
GREATEST_NUMBER = 10 ** 12


def is_number_key(value):
    """Return whether any value is a key of a number or of a length."""
    return is_key(value) and value[0] in ("num", "len")


def is_change(value):
    """Return whether a tuple that begins with its word is a set, a more or a copy."""
    if len(value) != 4 or not is_number_key(value[1]) or not isinstance(value[3], bool):
        return False
    if value[0] == "copy":
        return is_number_key(value[2]) and value[1] != value[2]
    return is_integer_within(value[2], -GREATEST_VALUE, GREATEST_VALUE)


def is_deed(value):
    """Return whether any value is a deed."""
    if not isinstance(value, tuple) or len(value) == 0 or not isinstance(value[0], str):
        return False
    if value[0] in ("begin", "end"):
        return len(value) == 1
    if value[0] in ("set", "more", "copy"):
        return is_change(value)
    if value[0] == "tell":
        return len(value) == 2 and is_number_key(value[1])
    return value[0] == "after" and len(value) == 2 and is_token(value[1])


def is_deeds(value):
    """Return whether any value is a row of deeds."""
    return isinstance(value, tuple) and len(value) <= MOST_DEEDS and all([is_deed(deed) for deed in value])


def is_number_pair(value):
    """Return whether any value is a pair of a key and of its number, which is not 0."""
    if not is_pair(value) or not is_number_key(value[0]) or value[1] == 0:
        return False
    return is_integer_within(value[1], -GREATEST_NUMBER, GREATEST_NUMBER)


def are_numbers(value):
    """Return whether any value is an ascending row of the numbers of all keys that are not 0."""
    if not isinstance(value, tuple) or not all([is_number_pair(pair) for pair in value]):
        return False
    return are_ascending([pair[0] for pair in value])


def is_group(value):
    """Return whether any value is a group."""
    return is_pair(value) and are_numbers(value[0]) and is_row_of_tokens(value[1], MOST_KEPT)


def is_state(value):
    """Return whether any value is a state."""
    if not isinstance(value, tuple) or not 1 <= len(value) <= MOST_GROUPS:
        return False
    return all([is_group(group) for group in value]) and value[0][1] == ()


def need_deeds(value):
    """Raise InvalidDeeds for what is no row of deeds."""
    if not is_deeds(value):
        raise InvalidDeeds("deeds")


def need_state(value):
    """Raise InvalidState for what is no state."""
    if not is_state(value):
        raise InvalidState("state")


def group_to_do(group):
    """Return a group of a state, to do deeds in it."""
    numbers, tokens = group
    terms = {key: ("is", number) for key, number in numbers}
    return Group(None, terms, [("token", token) for token in tokens])


def group_done(group):
    """Return the group of a state that a group, whose terms are numbers, is."""
    numbers = [(key, group.terms[key][1]) for key in sorted(group.terms)]
    return (tuple([pair for pair in numbers if pair[1] != 0]), group.tokens_kept())


def thing_told(said):
    """Return what is told, the number of a term being told as it is."""
    return ("number", said[1][1]) if said[0] == "number" else said


def told_and_behind(state, deeds):
    """Return what deeds tell in a state, and the row of the groups behind them, which may pass what states let."""
    groups = Groups([group_to_do(group) for group in state])
    do_deeds(groups, deeds)
    told = tuple([thing_told(said) for said in groups.said])
    return (told, tuple([group_done(group) for group in groups.stand]))


def done_deeds(state, deeds):
    """Return what deeds tell in a state, and the state behind them."""
    need_state(state)
    need_deeds(deeds)
    told, behind = told_and_behind(state, deeds)
    if not is_state(behind):
        raise InvalidState("behind")
    return (told, behind)


def deed_of_event(event):
    """Return the deed of an event, or None if it has none."""
    if event[0] == "level":
        return ("begin",)
    if event[0] == "left":
        return ("end",)
    if event[0] == "keep":
        return ("after", event[1])
    if event[0] == "set" and is_number_key(event[1]):
        return event
    return None


def deeds_of(text, answers, most):
    """Return the row of the deeds of a text."""
    events = ran(text, answers, most)[0].events
    deeds = [deed_of_event(event) for _, _, event in events]
    deeds = tuple([deed for deed in deeds if deed is not None])
    if len(deeds) > MOST_DEEDS:
        raise TooMany(MOST_DEEDS)
    return deeds
