"""Texts that two tables tell apart, and the kinds that leave a row as it is."""

from settlepages.checks import need_set_sign, need_signs, need_table, need_text
from settlepages.cutting import tokens_told
from settlepages.kinds import kinds_of

KINDS = (0, 1, 2, 3, 4, 5, 6, 7, 8, 9)


def parting_text(table, table_two, signs):
    """Return the first shortest text out of these signs, and line feeds, for which both tell unlike rows, or None.

    Three signs are enough: a sign of unlike kinds, with a line feed, tells the tables apart, but for the
    kinds 4 and 9; of these tells one line of such a sign and of any one whose kind is neither 4 nor 9.
    """
    need_table(table)
    need_table(table_two)
    need_signs(signs)
    kinds = kinds_of(table)
    kinds_two = kinds_of(table_two)
    all_signs = ("\n", *signs)
    lines = [one + "\n" for one in all_signs] + [one + two + "\n" for one in all_signs for two in all_signs]
    for line in lines:
        if tokens_told(kinds, line) != tokens_told(kinds_two, line):
            return line
    return None


def kinds_let(table, text, sign):
    """Return the ascending row of the kinds that a sign can have such that the text tells the same row."""
    need_table(table)
    need_text(text)
    need_set_sign(sign)
    kinds = kinds_of(table)
    told = tokens_told(kinds, text)
    return tuple([kind for kind in KINDS if tokens_told({**kinds, sign: kind}, text) == told])
