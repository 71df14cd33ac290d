"""What a breaker may forget: keys that are enough, and paragraphs that part those that are not."""

from settlepages.breakers import best_way
from settlepages.errors import InvalidKey
from settlepages.kinds import is_integer_within
from settlepages.lines import MARKED, PLAIN, width_of
from settlepages.paragraphs import need_costs, need_paragraph

GREATEST_CAP = 8
DEAR = 10 ** 8
MUST_BE_TAKEN = -(10 ** 9)
WORST = 10000
MOST_ENDS_AHEAD = 49
END = ("end",)


def need_key(value):
    """Raise InvalidKey for what is no key."""
    if not isinstance(value, tuple) or len(value) != 3:
        raise InvalidKey("key")
    cap, tightness, mark = value
    if cap is not None and not is_integer_within(cap, 0, GREATEST_CAP):
        raise InvalidKey("cap")
    if not isinstance(tightness, bool) or not isinstance(mark, bool):
        raise InvalidKey("key")


def uneven_line(widths, cap):
    """Return the number of a line, from the cap on, but not 0, whose width is not that of the next one, or None."""
    for number in range(max(cap, 1), len(widths) - 1):
        if widths[number] != widths[number + 1]:
            return number
    return None


def is_cap_enough(costs, cap):
    """Return whether it is enough to count lines up to a cap."""
    return cap is None or (costs[4][1] == 0 and uneven_line(costs[0], cap) is None)


def is_key_enough(costs, key):
    """Return whether a key is enough for costs."""
    _, _, near, twice, _ = costs
    cap, asks_tightness, asks_mark = key
    return (asks_tightness or near == 0) and (asks_mark or twice == 0) and is_cap_enough(costs, cap)


def bare_place(price):
    """Return a place that is taken plain alone, and has no length of its own."""
    return ("place", price, None, 0, 0, 0)


def plainly(*indices):
    """Return the way that takes places plain."""
    return tuple([(index, PLAIN) for index in indices])


def parted_by_tightness(costs):
    """Return a paragraph, and a way of it, for a breaker that forgets the tightness.

    Two ways come to the last place at the same cost. The first one, which is kept, comes there by a line that is far
    from as tight as the line behind it; the other one by a line that is filled. All else is too wide, or too dear.
    """
    widths, weight, near, _, _ = costs
    second = width_of(widths, 1)
    one = ("place", DEAR, None, 0, 0, widths[0])
    other = ("place", DEAR + 2 * WORST * weight, None, 0, second, 1)
    return (one, other, ("place", 0, None, 0, 0, 1000)), plainly(1, 2)


def parted_by_mark():
    """Return a paragraph, and a way of it, for a breaker that forgets the mark: it keeps "marked", the first one."""
    one = ("place", MUST_BE_TAKEN, MUST_BE_TAKEN, 0, 0, 0)
    other = ("place", None, MUST_BE_TAKEN, 0, 0, 0)
    return (one, other), ((0, PLAIN), (1, MARKED))


def parted_by_fewer_lines(costs, cap):
    """Return a paragraph, and a way of it, for a breaker that keeps a way of one line more, at the same cost."""
    _, weight, _, _, wish = costs
    ends = max(cap, 1, wish[0] - 1) - 1
    paragraph = (END,) * ends + (bare_place(-WORST * weight), bare_place(MUST_BE_TAKEN))
    return paragraph, plainly(ends + 1)


def parted_by_more_lines(costs, cap):
    """Return a paragraph, and a way of it, for a breaker that keeps a way of two lines fewer, which costs 1 less.

    By the gaps one can come to the second place only from the first one.
    """
    _, weight, _, _, _ = costs
    ends = max(cap, 1) - 1
    wide, back = ("gap", 1000, 0, 0), ("gap", -1000, 0, 0)
    first = bare_place(DEAR)
    second = bare_place(1 - DEAR - 2 * WORST * weight)
    paragraph = (END,) * ends + (first, wide, wide, second, back, back, bare_place(MUST_BE_TAKEN))
    return paragraph, plainly(ends, ends + 3, ends + 6)


def parted_by_widths(costs, cap):
    """Return a paragraph, and a way of it, for a breaker that keeps a way whose next line is too wide."""
    widths, weight, _, _, _ = costs
    number = uneven_line(widths, cap)
    ends = number - 1
    here, there = widths[number], widths[number + 1]
    # At the same cost the way of one line more is kept, otherwise the cheaper one.
    price = -WORST * weight if there < here else 1 - WORST * weight
    paragraph = (END,) * ends + (bare_place(price), bare_place(MUST_BE_TAKEN), ("box", max(here, there)))
    way = plainly(ends + 1) if there < here else plainly(ends, ends + 1)
    return paragraph, way


def parted_by_cap(costs, cap):
    """Return a paragraph, and a way of it, for a breaker that counts lines up to a cap that is not enough."""
    number, price = costs[4]
    if price == 0:
        return parted_by_widths(costs, cap)
    if number <= MOST_ENDS_AHEAD:
        return parted_by_fewer_lines(costs, cap)
    return parted_by_more_lines(costs, cap)


def is_enough(costs, key):
    """Return whether a key is enough for costs."""
    need_costs(costs)
    need_key(key)
    return is_key_enough(costs, key)


def key_way(paragraph, costs, key):
    """Return what a breaker with a key tells."""
    need_paragraph(paragraph)
    need_costs(costs)
    need_key(key)
    best = best_way(paragraph, costs, key)
    return None if best is None else best[1]


def parting_paragraph(costs, key):
    """Return any pair of a paragraph and of a way of it that is cheaper than what a breaker tells, or None."""
    need_costs(costs)
    need_key(key)
    cap, asks_tightness, asks_mark = key
    if is_key_enough(costs, key):
        return None
    if costs[2] > 0 and not asks_tightness:
        return parted_by_tightness(costs)
    if costs[3] > 0 and not asks_mark:
        return parted_by_mark()
    return parted_by_cap(costs, cap)


def are_splitting(costs):
    """Return whether costs split."""
    widths, _, near, _, wish = costs
    return near == 0 and min(widths) == max(widths) and (wish[0] == 0 or wish[1] == 0)


def do_split(costs):
    """Return whether costs split."""
    need_costs(costs)
    return are_splitting(costs)


def parting_pair(costs):
    """Return any pair of paragraphs whose costs, with an end between, are not the sum of both, or None."""
    need_costs(costs)
    widths, _, _, _, wish = costs
    if are_splitting(costs):
        return None
    for number, width in enumerate(widths):
        if width != widths[0]:
            # The other one begins with the line of this number: what fills the wider line fits it in one case alone.
            return ((END,) * (number - 1), (("box", max(width, widths[0])),))
    if wish[0] > 0 and wish[1] > 0:
        return ((), ())
    return ((), (bare_place(MUST_BE_TAKEN),))
