"""Which parts of a strip may be packed, and where a strip may be cut, ahead of the width to which it is set."""

from settlepages.errors import InvalidIndex, InvalidStrip
from settlepages.kinds import is_integer_within
from settlepages.strips import MOST_OF_ORDER, SHRINK, STRETCH, is_strip, leaves_at, need_strip, need_width
from settlepages.strips import places_of_things, places_told, shares_of, things_width


def need_index(value, least, most):
    """Raise InvalidIndex for what is no index from a least to a greatest one."""
    if not is_integer_within(value, least, most):
        raise InvalidIndex("index")


def with_packed(strip, start, stop):
    """Check a strip and a part of it, and return the strip with this part packed."""
    need_strip(strip)
    need_index(start, 0, len(strip))
    need_index(stop, start, len(strip))
    found = strip[:start] + (("box", strip[start:stop]),) + strip[stop:]
    if not is_strip(found):
        raise InvalidStrip("packed")
    return found


def whole_of(strip, at):
    """Return all that a strip gives by the order that rules, 1 if none does."""
    return max(1, sum(shares_of(strip, at)[1]))


def excesses_that_tell(one, other):
    """Return the list of the excesses of which one tells two strips apart, if any does.

    Where both are set with whole fractions, all roundings agree if and only if the fractions are the same. By the
    order 0 a strip is tight beyond what it can shrink.
    """
    stretch = whole_of(one, STRETCH) * whole_of(other, STRETCH)
    shrink = whole_of(one, SHRINK) * whole_of(other, SHRINK)
    return [stretch, -shrink] + list(range(-MOST_OF_ORDER - 1, 0))


def width_unlike(strip, other):
    """Return a width for which two strips of one width have unlike places, or words, or None."""
    natural = things_width(strip)
    for excess in excesses_that_tell(strip, other):
        width = natural + excess
        if places_told(strip, width) != places_told(other, width):
            return width
    return None


def halves_told(strip, at, width):
    """Return what the setting of both halves of a strip tells, or the word of the strip."""
    places = places_of_things(strip, width)
    if isinstance(places, str):
        return (places,)
    place = places[at]
    first = leaves_at(strip[:at], places_of_things(strip[:at], place))
    second = leaves_at(strip[at:], places_of_things(strip[at:], width - place))
    return ("set", tuple(first) + tuple([place + one for one in second]) + (width,))


def width_uncut(strip, at):
    """Return a width to which a strip is set with other places than its halves, or None.

    All places go on by what is given when the excess grows by all that is given: further ones tell nothing new.
    """
    natural = things_width(strip)
    for excess in range(-whole_of(strip, SHRINK), whole_of(strip, STRETCH) + 1):
        width = natural + excess
        if halves_told(strip, at, width) != places_told(strip, width):
            return width
    return None


def packed(strip, start, stop):
    """Return a strip with a part of it packed by a box."""
    return with_packed(strip, start, stop)


def may_pack(strip, start, stop):
    """Return whether a part of a strip may be packed."""
    return width_unlike(strip, with_packed(strip, start, stop)) is None


def packing_shown(strip, start, stop):
    """Return any width that shows that a part of a strip may not be packed, or None."""
    return width_unlike(strip, with_packed(strip, start, stop))


def set_halves(strip, at, width):
    """Return ("set", places) for both halves of a strip that is cut at an index, or the word of the strip."""
    need_strip(strip)
    need_index(at, 0, len(strip))
    need_width(width)
    return halves_told(strip, at, width)


def may_cut(strip, at):
    """Return whether a strip may be cut at an index."""
    return cut_shown(strip, at) is None


def cut_shown(strip, at):
    """Return any width that shows that a strip may not be cut at an index, or None."""
    need_strip(strip)
    need_index(at, 0, len(strip))
    return width_uncut(strip, at)
