"""Rows of widths that the lines of a passage fit."""

from settlepages.checks import need_number
from settlepages.strips import need_passage, places_in
from settlepages.taking import BEGINNING, all_fits, need_much

MOST_LINES = 3


def need_many(value):
    """Raise InvalidNumber for what is no number of lines that can be asked for."""
    need_number(value, 1, MOST_LINES)


def rows_of_pairs(passage, much, many):
    """Return the list of all unlike rows of pairs, one for each line, of so many lines of a passage."""
    fits = all_fits(passage, much)
    end = len(places_in(passage)) - 1
    ways = [(BEGINNING, ())]
    for line in range(many):
        stops = [end] if line == many - 1 else list(range(end))
        ways = [
            (last, row + (fits[(first, last)],)) for first, row in ways for last in stops if (first, last) in fits
        ]
    return list({row: True for _, row in ways})


def is_within(row, other):
    """Return whether each pair of a row lies within that of another one."""
    return all([wide[0] <= pair[0] and pair[1] <= wide[1] for pair, wide in zip(row, other)])


def widest_rows(passage, much, many):
    """Return the ascending list of the rows of pairs, but for those that lie within another one."""
    rows = rows_of_pairs(passage, much, many)
    return [row for row in sorted(rows) if not any([row != other and is_within(row, other) for other in rows])]


def rows_behind(rows, width):
    """Return the list of what stands behind the first pair of those rows whose first pair a width lies in."""
    return [row[1:] for row in rows if row[0][0] <= width <= row[0][1]]


def least_parting(rows, others, many):
    """Return the least row of so many widths that lie in a row of just one of two lists, or None.

    Where a least row begins with a width, the rows in which it lies are unlike those for the width ahead of it.
    """
    if many == 0:
        return () if (rows == []) != (others == []) else None
    changes = {}
    for row in rows + others:
        changes[row[0][0]] = True
        changes[row[0][1] + 1] = True
    for width in sorted(changes):
        found = least_parting(rows_behind(rows, width), rows_behind(others, width), many - 1)
        if found is not None:
            return (width,) + found
    return None


def width_rows(passage, much, many):
    """Return the ascending list of all rows of pairs of so many lines, but for those that lie within another one."""
    need_passage(passage)
    need_much(much)
    need_many(many)
    return widest_rows(passage, much, many)


def parting_widths(passage, beside, much, many):
    """Return the least row of so many widths which lines of just one of two passages fit, or None."""
    need_passage(passage)
    need_passage(beside)
    need_much(much)
    need_many(many)
    return least_parting(widest_rows(passage, much, many), widest_rows(beside, much, many), many)
