"""The moments that a text can come to."""

from settlepages.turns import checked_paths


def moments_of(text):
    """Return the list of all moments that can be come to, in the order of their turns."""
    return checked_paths(text).moments
