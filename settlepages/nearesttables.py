"""The nearest tables that write a row, and clashes of rows."""

from settlepages.checks import need_table
from settlepages.cutting import PAR
from settlepages.errors import TooMany
from settlepages.kinds import SIGNS, can_be_set, is_integer, kind_in, kinds_of, table_of
from settlepages.rowneeds import kinds_needed, row_clashes, signs_ahead_of_spaces, signs_in
from settlepages.tokenrows import need_token_row

MOST_UNLIKE_SIGNS = 40


def need_few_signs(row):
    """Raise TooMany for a row in which too many unlike signs stand."""
    if len(signs_in(row)) > MOST_UNLIKE_SIGNS:
        raise TooMany(MOST_UNLIKE_SIGNS)


def has_kind(kinds, kind):
    """Return whether some sign has a kind."""
    return any([kind_in(kinds, sign) == kind for sign in SIGNS])


def is_within_behind(kinds, token):
    """Return whether the standing behind a token is always "within"."""
    kind, word = token
    if kind == "name":
        return len(word) == 1 and word != "\n" and kind_in(kinds, word) not in (4, 5)
    return kind != 4


def is_remark_asked(kinds, row, has_call):
    """Return whether a row is written just by tables that have a sign of the kind 8.

    A line must be ended without a space behind the last token, and ahead of a par that cannot be called.
    """
    calls_par = has_call and all([kind_in(kinds, sign) == 5 for sign in PAR[1]])
    for index, token in enumerate(row):
        at_end = index + 1 == len(row)
        if is_within_behind(kinds, token) and (at_end or (row[index + 1] == PAR and not calls_par)):
            return True
    return False


def kinds_asked(kinds, row):
    """Return the list of the kinds of which a row asks one sign more."""
    asked = []
    needs_call = any([token[0] == "name" and token != PAR for token in row])
    has_call = has_kind(kinds, 0)
    if needs_call and not has_call:
        asked.append(0)
    if is_remark_asked(kinds, row, has_call or needs_call) and not has_kind(kinds, 8):
        asked.append(8)
    return asked


def loose_signs(kinds, row):
    """Return the list of the signs whose kind must change, as a space stands behind their names."""
    signs = {sign: True for _, sign in signs_ahead_of_spaces(row)}
    return [sign for sign in sorted(signs) if kind_in(kinds, sign) in (4, 5)]


def spare_sign(kinds, row):
    """Return a sign that does not stand in a row, and is not the one sign of the kinds 0 or 8."""
    inside = signs_in(row)
    spare = [sign for sign in SIGNS if can_be_set(sign) and sign not in inside and sign not in PAR[1]]
    counts = {kind: len([sign for sign in SIGNS if kind_in(kinds, sign) == kind]) for kind in (0, 8)}
    free = [sign for sign in spare if counts.get(kind_in(kinds, sign), 2) > 1]
    return free[0]


def nearest_table(table, row):
    """Return any table that writes a row, with as few other kinds than by the table as can be, or None.

    First come the kinds that the row needs. A sign that must change, but to no kind in particular, is given
    a kind that is asked for; only if there is none is a sign that the row does not use given it.
    """
    need_table(table)
    need_token_row(row)
    need_few_signs(row)
    if row_clashes(row):
        return None
    kinds = kinds_of(table)
    kinds.update(kinds_needed(row))
    loose = loose_signs(kinds, row)
    for sign in loose:
        kinds[sign] = 6
    asked = kinds_asked(kinds, row)
    for kind in asked:
        sign = loose.pop() if loose else spare_sign(kinds, row)
        kinds[sign] = kind
    return table_of(kinds)


def row_clash(row):
    """Return any clash of a row, or None."""
    need_token_row(row)
    need_few_signs(row)
    clashes = row_clashes(row)
    return clashes[0] if clashes else None


def is_row_clash(row, value):
    """Return whether any value is a clash of a row."""
    need_token_row(row)
    need_few_signs(row)
    if not isinstance(value, tuple) or not all([isinstance(item, str) or is_integer(item) for item in value]):
        return False
    return value in row_clashes(row)
