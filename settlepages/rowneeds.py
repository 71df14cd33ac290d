"""What a token row needs of the kinds of signs, and where its needs clash."""

from settlepages.cutting import PAR, SPACE


def kind_needed(token, sign):
    """Return the kind that a token needs of a sign, or None."""
    if token == SPACE or token == PAR or sign not in token[1]:
        return None
    if token[0] != "name":
        return token[0]
    return 5 if len(token[1]) > 1 else None


def signs_needed(token):
    """Return the list of the unlike signs of which a token needs a kind, in order."""
    signs = {sign: True for sign in token[1]}
    return [sign for sign in signs if kind_needed(token, sign) is not None]


def signs_in(row):
    """Return the ascending list of all signs that stand in a row."""
    signs = {sign: True for token in row for sign in token[1]}
    return sorted(signs)


def has_space_clash(row, index):
    """Return whether a space stands at an index where none can stand."""
    if row[index] != SPACE:
        return False
    if index == 0 or row[index - 1] == SPACE:
        return True
    sort, word = row[index - 1]
    return sort == "name" and (len(word) > 1 or word == "\n")


def space_clashes(row):
    """Return the list of all clashes of spaces."""
    return [("space", index) for index in range(len(row)) if has_space_clash(row, index)]


def kinds_clashes(row):
    """Return the list of all clashes of kinds."""
    clashes = []
    for other in range(len(row)):
        for sign in signs_needed(row[other]):
            kind = kind_needed(row[other], sign)
            clashes.extend([
                ("kinds", index, other, sign)
                for index in range(other) if kind_needed(row[index], sign) not in (None, kind)
            ])
    return clashes


def is_sign_ahead_of_space(row, index):
    """Return whether the token at an index is the name of one sign, and a space stands behind it."""
    if index + 1 >= len(row) or row[index + 1] != SPACE:
        return False
    return row[index][0] == "name" and len(row[index][1]) == 1


def signs_ahead_of_spaces(row):
    """Return the list of the pairs (index, sign) of all names of one sign behind which a space stands."""
    return [(index, row[index][1]) for index in range(len(row)) if is_sign_ahead_of_space(row, index)]


def behind_clashes(row):
    """Return the list of all clashes of spaces behind names of one sign."""
    return [
        ("behind", index, other, sign)
        for index, sign in signs_ahead_of_spaces(row)
        for other in range(len(row)) if kind_needed(row[other], sign) == 5
    ]


def row_clashes(row):
    """Return the list of all clashes of a row."""
    return space_clashes(row) + kinds_clashes(row) + behind_clashes(row)


def kinds_needed(row):
    """Return the dict of the kinds that a row without a clash needs of signs."""
    return {sign: kind_needed(token, sign) for token in row for sign in signs_needed(token)}
