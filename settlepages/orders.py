"""The order in which texts and rows are looked for: the shorter one first, then in Python's order."""


def lesser(one, other):
    """Return the lesser one of two texts, or of two rows; None is none of them."""
    if one is None or other is None:
        return other if one is None else one
    return one if (len(one), one) <= (len(other), other) else other
