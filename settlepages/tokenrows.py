"""Token rows, and where a table refuses them."""

from settlepages.checks import need_table, need_text
from settlepages.cutting import LONGEST_NAME, SPACE, tokens_told
from settlepages.errors import InvalidRow
from settlepages.kinds import FIGURES, is_integer, is_sign, kinds_of
from settlepages.rowmoves import Writer

LONGEST_TOKEN_ROW = 40


def is_name_word(value):
    """Return whether any value is the word of a name that some table gives."""
    if not isinstance(value, str) or not 1 <= len(value) <= LONGEST_NAME:
        return False
    if len(value) == 1:
        return is_sign(value)
    return all([is_sign(sign) and sign != "\n" and sign not in FIGURES for sign in value])


def is_token_given(value):
    """Return whether any value is a token that some table gives."""
    if not isinstance(value, tuple) or len(value) != 2:
        return False
    kind, sign = value
    if isinstance(kind, str):
        return kind == "name" and is_name_word(sign)
    if not is_integer(kind) or not is_sign(sign) or sign == "\n":
        return False
    if kind == 4:
        return sign == " "
    if sign in FIGURES:
        return kind == 6
    return kind in (1, 2, 3, 5, 6, 7)


def is_token_row(value):
    """Return whether any value is a token row."""
    if not isinstance(value, tuple) or len(value) > LONGEST_TOKEN_ROW:
        return False
    return all([is_token_given(token) for token in value])


def need_token_row(value):
    """Raise InvalidRow for what is no token row."""
    if not is_token_row(value):
        raise InvalidRow("row")


def row_told(table, text):
    """Return the row that a text tells."""
    need_table(table)
    need_text(text)
    return tokens_told(kinds_of(table), text)


def with_new_lines(writer, standings):
    """Return a list of standings, and "new" if a line can be ended so that nothing comes."""
    if "new" not in standings and any([writer.line_end(standing) is not None for standing in standings]):
        return standings + ["new"]
    return standings


def standings_behind(writer, token, standings):
    """Return the list of all that can stand behind a token, from any of these standings."""
    found = {}
    for standing in standings:
        for _, behind in writer.moves(token, standing):
            found[behind] = True
    return with_new_lines(writer, list(found))


def word_of_refusal(token):
    """Return the word by which a token is refused."""
    if token == SPACE:
        return "space"
    return "name" if token[0] == "name" else "kind"


def refused_at(table, row):
    """Return the pair (index, word) of where a row is refused first, or None."""
    need_table(table)
    need_token_row(row)
    writer = Writer(kinds_of(table))
    standings = ["new"]
    for index, token in enumerate(row):
        standings = standings_behind(writer, token, standings)
        if not standings:
            return (index, word_of_refusal(token))
    return None if "new" in standings else (len(row), "end")
