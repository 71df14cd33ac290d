"""Tokens, rows of tokens, keys, and the values that keys can have, as any values are asked whether they are such."""

from settlepages.kinds import are_ascending, can_be_set, is_integer, is_integer_within, is_sign
from settlepages.meanings import is_word, value_at_first

LONGEST_NAME_WORD = 20
LONGEST_PLAIN_ROW = 60
MOST_ENDS = 4
GREATEST_VALUE = 10 ** 9
MOST_VALUES = 40
PLAIN_KINDS = (1, 2, 3, 5, 6, 7)
REGISTERS = "01234567"


def is_pair(value):
    """Return whether any value is a pair."""
    return isinstance(value, tuple) and len(value) == 2


def is_name_of_signs(value):
    """Return whether any value is the word of a name, of whatever signs."""
    if not isinstance(value, str) or not 1 <= len(value) <= LONGEST_NAME_WORD:
        return False
    return all([is_sign(sign) for sign in value])


def is_token(value):
    """Return whether any value is a token."""
    if not is_pair(value):
        return False
    kind, sign = value
    if isinstance(kind, str):
        return kind == "name" and is_name_of_signs(sign)
    if not is_integer(kind) or not is_sign(sign):
        return False
    return kind in PLAIN_KINDS or (kind == 4 and sign == " ")


def is_row_of_tokens(value, most):
    """Return whether any value is a row of so many tokens at most."""
    return isinstance(value, tuple) and len(value) <= most and all([is_token(token) for token in value])


def are_ends(value):
    """Return whether any value is the ends of the parameters of a rule."""
    if not isinstance(value, tuple) or len(value) > MOST_ENDS:
        return False
    return all([end is None or is_token(end) for end in value])


def is_rule(value):
    """Return whether a tuple is a rule, with a body of at most 60 tokens and indices."""
    if len(value) != 3 or not are_ends(value[1]):
        return False
    _, ends, body = value
    if not isinstance(body, tuple) or len(body) > LONGEST_PLAIN_ROW:
        return False
    return all([is_token(item) or is_integer_within(item, 0, len(ends) - 1) for item in body])


def is_meaning(value):
    """Return whether any value is a meaning."""
    if not isinstance(value, tuple) or not 2 <= len(value) <= 3 or not isinstance(value[0], str):
        return False
    if value[0] == "rule":
        return is_rule(value)
    if len(value) != 2:
        return False
    if value[0] == "word":
        return isinstance(value[1], str) and is_word(value[1])
    return value[0] == "token" and is_token(value[1]) and value[1][0] != "name" and value[1][0] != 7


def is_key(value):
    """Return whether any value is a key, of kinds one of a sign that can be in tables."""
    if not is_pair(value) or not isinstance(value[0], str) or not isinstance(value[1], str):
        return False
    sort, word = value
    if sort == "kind":
        return can_be_set(word)
    if sort == "name":
        return is_name_of_signs(word)
    if sort == "alone":
        return is_sign(word)
    return sort in ("num", "len", "row") and len(word) == 1 and word in REGISTERS


def can_have(key, value):
    """Return whether any value is one that a key can have, those at the beginning, too."""
    sort = key[0]
    if sort == "kind":
        return is_integer_within(value, 0, 9)
    if sort in ("name", "alone"):
        return value is None or is_meaning(value)
    if sort == "row":
        return is_row_of_tokens(value, LONGEST_PLAIN_ROW)
    return is_integer_within(value, -GREATEST_VALUE, GREATEST_VALUE)


def is_value_pair(value):
    """Return whether any value is a pair (key, value) of a value that is not the one at the beginning."""
    if not is_pair(value) or not is_key(value[0]) or not can_have(value[0], value[1]):
        return False
    return value[1] != value_at_first(value[0])


def are_values_of_level(value):
    """Return whether any value is an ascending row of at most 40 such pairs."""
    if not isinstance(value, tuple) or len(value) > MOST_VALUES or not all([is_value_pair(pair) for pair in value]):
        return False
    return are_ascending([pair[0] for pair in value])
