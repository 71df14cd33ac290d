"""Lines of a passage, the widths that they fit, and lines taken one by one."""

from settlepages.checks import need_number
from settlepages.errors import InvalidIndex
from settlepages.kinds import is_integer_within
from settlepages.strips import GREATEST_WIDTH, SHRINK, STRETCH, need_passage, need_width, places_in, things_width

MOST_MUCH = 10
BEGINNING = -1


def need_much(value):
    """Raise InvalidNumber for what is no number of how much lines may stretch."""
    need_number(value, 0, MOST_MUCH)


def line_between(passage, first, last):
    """Return the row of the things of the line from behind a place, or from the beginning, up to a later place."""
    places = places_in(passage)
    start = 0 if first == BEGINNING else places[first] + 1
    stop = places[last]
    while start < stop and passage[start][0] not in ("sign", "box"):
        start += 1
    return passage[start:stop]


def most_given(line, at):
    """Return what the spaces of a line give at most, stretch or shrink, or None where there is no bound."""
    given = [thing for thing in line if thing[0] == "space" and thing[at] > 0]
    if any([space[at + 1] > 0 for space in given]):
        return None
    return sum([space[at] for space in given])


def fit_of_line(line, much):
    """Return the pair of the least and the greatest width that a line fits, or None."""
    natural = things_width(line)
    stretch = most_given(line, STRETCH)
    shrink = most_given(line, SHRINK)
    least = 0 if shrink is None else max(0, natural - shrink)
    most = GREATEST_WIDTH if stretch is None else min(GREATEST_WIDTH, natural + much * stretch)
    return (least, most) if least <= most else None


def all_fits(passage, much):
    """Return the dict of what the line from each first to each later place fits, without those that fit nothing."""
    many = len(places_in(passage))
    fits = {}
    for first in range(BEGINNING, many):
        for last in range(first + 1, many):
            fit = fit_of_line(line_between(passage, first, last), much)
            if fit is not None:
                fits[(first, last)] = fit
    return fits


def does_fit(fits, first, last, width):
    """Return whether the line between two places fits a width."""
    if (first, last) not in fits:
        return False
    least, most = fits[(first, last)]
    return least <= width <= most


def taken(fits, many, width):
    """Return the lines taken one by one, up to so many places, or None if it stops."""
    lines = ()
    at = BEGINNING
    while at < many - 1:
        fitting = [last for last in range(at + 1, many) if does_fit(fits, at, last, width)]
        if not fitting:
            return None
        at = fitting[-1]
        lines = lines + (at,)
    return lines


def any_lines(fits, many, width):
    """Return any lines that fit a width, up to so many places, or None."""
    ways = {BEGINNING: ()}
    for last in range(many):
        for first in range(BEGINNING, last):
            if first in ways and last not in ways and does_fit(fits, first, last, width):
                ways[last] = ways[first] + (last,)
    return ways.get(many - 1)


def width_stopped(passage, much):
    """Return a width that some lines fit, though it stops when they are taken one by one, or None.

    Which lines fit changes only at the least width of a line, and behind the greatest one.
    """
    fits = all_fits(passage, much)
    many = len(places_in(passage))
    changes = {}
    for first, last in fits:
        least, most = fits[(first, last)]
        changes[least] = True
        changes[most + 1] = True
    for width in sorted(changes):
        if taken(fits, many, width) is None and any_lines(fits, many, width) is not None:
            return width
    return None


def fit_between(passage, much, first, last):
    """Return the pair of the least and the greatest width that the line between two places fits, or None."""
    need_passage(passage)
    need_much(much)
    many = len(places_in(passage))
    if not is_integer_within(first, BEGINNING, many - 1):
        raise InvalidIndex("first")
    if not is_integer_within(last, first + 1, many - 1):
        raise InvalidIndex("last")
    return fit_of_line(line_between(passage, first, last), much)


def lines_taken(passage, much, width):
    """Return the lines taken one by one for a width, or None if it stops."""
    need_passage(passage)
    need_much(much)
    need_width(width)
    return taken(all_fits(passage, much), len(places_in(passage)), width)


def some_lines(passage, much, width):
    """Return any lines that fit a width, as one for all of them, or None."""
    need_passage(passage)
    need_much(much)
    need_width(width)
    return any_lines(all_fits(passage, much), len(places_in(passage)), width)


def may_take(passage, much):
    """Return whether lines may be taken one by one."""
    return taking_shown(passage, much) is None


def taking_shown(passage, much):
    """Return any width that shows that lines may not be taken one by one, or None."""
    need_passage(passage)
    need_much(much)
    return width_stopped(passage, much)
