"""Signs, texts, kinds and tables."""

from settlepages.errors import InvalidSign, InvalidTable

FIGURES = "0123456789"
SIGNS = "\n !\"#$&'()*+,-./0123456789:;<=>?@ABCDEFGHIJKLMNOPQRSTUVWXYZ[]^_`abcdefghijklmnopqrstuvwxyz{|}~"
USUAL_KINDS = {"!": 0, "(": 1, ")": 2, "$": 3, " ": 4, "~": 7, ";": 8, "\n": 9}
MOST_SIGNS = 400


def is_integer(value):
    """Return whether any value is an integer, which True and False are not."""
    return isinstance(value, int) and not isinstance(value, bool)


def is_integer_within(value, low, high):
    """Return whether any value is an integer from low to high."""
    return is_integer(value) and low <= value <= high


def is_sign(value):
    """Return whether any value is a sign."""
    return isinstance(value, str) and len(value) == 1 and value in SIGNS


def can_be_set(value):
    """Return whether any value is a sign that can be in tables."""
    return is_sign(value) and value != "\n" and value not in FIGURES


def usual_kind(sign):
    """Return the kind that a sign has where nothing tells another one."""
    if sign in USUAL_KINDS:
        return USUAL_KINDS[sign]
    if sign.isalpha():
        return 5
    return 6


def kind_in(kinds, sign):
    """Return the kind of a sign by a dict of the kinds that are not the usual ones."""
    if sign in kinds:
        return kinds[sign]
    return usual_kind(sign)


def kinds_of(table):
    """Return the dict of the kinds that a table tells."""
    return {sign: kind for sign, kind in table}


def table_of(kinds):
    """Return the table of a dict of kinds, in which usual ones may stand."""
    return tuple([(sign, kinds[sign]) for sign in sorted(kinds) if kinds[sign] != usual_kind(sign)])


def is_text(value):
    """Return whether any value is a text."""
    if not isinstance(value, str) or len(value) > MOST_SIGNS:
        return False
    if value != "" and not value.endswith("\n"):
        return False
    return all([sign in SIGNS for sign in value])


def is_table_pair(value):
    """Return whether any value is a pair that can stand in a table."""
    if not isinstance(value, tuple) or len(value) != 2:
        return False
    sign, kind = value
    return can_be_set(sign) and is_integer_within(kind, 0, 9) and kind != usual_kind(sign)


def is_table(value):
    """Return whether any value is a table."""
    if not isinstance(value, tuple) or not all([is_table_pair(pair) for pair in value]):
        return False
    signs = [pair[0] for pair in value]
    return are_ascending(signs)


def are_ascending(row):
    """Return whether the items of a row, which can be compared, ascend without duplicates."""
    return all([row[at] < row[at + 1] for at in range(len(row) - 1)])


def kind_by(table, sign):
    """Return the kind of a sign by a table."""
    if not is_table(table):
        raise InvalidTable("table")
    if not is_sign(sign):
        raise InvalidSign("sign")
    return kind_in(kinds_of(table), sign)
