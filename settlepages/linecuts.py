"""Which lines may be cut ahead together, and where a line must be ended so that it may be cut as a whole."""

from settlepages.checks import need_text
from settlepages.errors import InvalidMends, InvalidStops
from settlepages.kinds import are_ascending, is_integer_within
from settlepages.orders import lesser
from settlepages.segments import REMARK_PUT_IN, Part, all_seeks, does_part_fit, is_part_let, line_starts, part_limit
from settlepages.turns import need_short_text, paths_of
from settlepages.unfits import first_unfit


def are_indices(value, text):
    """Return whether any value is an ascending row of indices of signs of a text."""
    if not isinstance(value, tuple) or not all([is_integer_within(index, 0, len(text) - 1) for index in value]):
        return False
    return are_ascending(value)


def need_stops(text, value):
    """Raise InvalidStops for what are no stops of a text."""
    if not are_indices(value, text) or not all([index > 0 and text[index - 1] == "\n" for index in value]):
        raise InvalidStops("stops")


def need_mends(text, value):
    """Raise InvalidMends for what are no mends of a text."""
    if not are_indices(value, text):
        raise InvalidMends("mends")


def unfit_answers(text, stops):
    """Return any answers by which a run has a piece that is not that got ahead by stops, or None if they fit."""
    need_text(text)
    need_stops(text, stops)
    need_short_text(text)
    return first_unfit(paths_of(text), stops)


def fewest_stops(text):
    """Return, of the rows with the fewest stops that fit, the first one in Python's order, or None."""
    need_text(text)
    need_short_text(text)
    paths = paths_of(text)
    starts = line_starts(text)
    fewest = {len(text): ()}
    for start in reversed(starts):
        limit = part_limit(paths, Part(text, start, len(text), False))
        best = () if limit == len(text) else None
        for stop in starts:
            if start < stop <= limit and fewest[stop] is not None:
                best = lesser(best, (stop, *fewest[stop]))
        fewest[start] = best
    return fewest[0]


def text_mended(text, mends):
    """Return a text with all that mends put in."""
    signs = [REMARK_PUT_IN + sign if at in mends else sign for at, sign in enumerate(text)]
    return "".join(signs)


def mended(text, mends):
    """Return the mended text."""
    need_text(text)
    need_mends(text, mends)
    need_short_text(text)
    return text_mended(text, mends)


def parts_by(text, mends):
    """Return the list of the parts between the beginnings of lines, mends, and the end of a text."""
    breaks = sorted([(start, False) for start in line_starts(text)] + [(mend, True) for mend in mends])
    breaks.append((len(text), False))
    parts = []
    for at in range(len(breaks) - 1):
        stop, is_mended = breaks[at + 1]
        parts.append(Part(text, breaks[at][0], stop, is_mended))
    return parts


def are_let(text, mends):
    """Return whether mends are let."""
    need_text(text)
    need_mends(text, mends)
    need_short_text(text)
    seeks = all_seeks(paths_of(text))
    return all([is_part_let(seeks, part) for part in parts_by(text, mends)])


def is_part_good(paths, seeks, part):
    """Return whether a part may stand between two breaks of a text that is mended."""
    return is_part_let(seeks, part) and does_part_fit(paths, part)


def best_mends(paths, seeks, start, fewest):
    """Return the best row of mends behind an index that is a break, or None; fewest has those of later ones."""
    text = paths.text
    end = text.find("\n", start) + 1
    if fewest[end] is not None and is_part_good(paths, seeks, Part(text, start, end, False)):
        return fewest[end]
    best = None
    for mend in range(start + 1, end):
        if fewest[mend] is not None and is_part_good(paths, seeks, Part(text, start, mend, True)):
            best = lesser(best, (mend, *fewest[mend]))
    return best


def fewest_mends(text):
    """Return, of the rows with the fewest mends that mend a text, the first one in Python's order, or None.

    A mend at the beginning of a line parts nothing, so it is in none of these rows.
    """
    need_text(text)
    need_short_text(text)
    paths = paths_of(text)
    seeks = all_seeks(paths)
    fewest = {len(text): ()}
    for start in reversed(range(len(text))):
        fewest[start] = best_mends(paths, seeks, start, fewest)
    return fewest[0]
