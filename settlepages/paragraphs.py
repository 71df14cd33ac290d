"""Paragraphs, ways through them, costs, and papers of prices."""

from settlepages.breakers import FULL_KEY, NO_TIGHTNESS, Breaker, Kept, best_way, joint_cost, wish_cost
from settlepages.errors import InvalidCosts, InvalidParagraph, InvalidWay
from settlepages.kinds import are_ascending, is_integer, is_integer_within
from settlepages.lines import MARKED, PLAIN, Measures, judged, width_of

MOST_ITEMS = 60
GREATEST_LENGTH = 1000
GREATEST_PRICE = 10 ** 9
MOST_WIDTHS = 8
LEAST_WIDTH = 10
LEAST_PRICE_OF_PAPER = -(10 ** 50 * 10 ** 50)


def are_lengths(row):
    """Return whether a row has integers from 0 to 1000 alone."""
    return all([is_integer_within(length, 0, GREATEST_LENGTH) for length in row])


def is_price(value):
    """Return whether any value is a price, or None."""
    return value is None or is_integer_within(value, -GREATEST_PRICE, GREATEST_PRICE)


def is_item(value):
    """Return whether any value is an item of a paragraph."""
    if not isinstance(value, tuple) or len(value) == 0:
        return False
    if value[0] == "box":
        return len(value) == 2 and are_lengths(value[1:])
    if value[0] == "gap":
        return is_gap(value)
    if value[0] == "place":
        return is_place(value)
    return value == ("end",)


def is_gap(value):
    """Return whether a tuple that begins so is a gap."""
    if len(value) != 4 or not are_lengths(value[2:]):
        return False
    return is_integer_within(value[1], -GREATEST_LENGTH, GREATEST_LENGTH)


def is_place(value):
    """Return whether a tuple that begins so is a place."""
    if len(value) != 6 or not is_price(value[1]) or not is_price(value[2]) or not are_lengths(value[3:]):
        return False
    return value[1] is not None or value[2] is not None


def is_paragraph(value):
    """Return whether any value is a paragraph."""
    return isinstance(value, tuple) and len(value) <= MOST_ITEMS and all([is_item(item) for item in value])


def are_widths(value):
    """Return whether any value is the widths of costs."""
    if not isinstance(value, tuple) or not 1 <= len(value) <= MOST_WIDTHS:
        return False
    return all([is_integer_within(width, LEAST_WIDTH, GREATEST_LENGTH) for width in value])


def are_costs(value):
    """Return whether any value is costs."""
    if not isinstance(value, tuple) or len(value) != 5:
        return False
    widths, weight, near, twice, wish = value
    if not are_widths(widths) or not are_lengths((weight, near, twice)):
        return False
    return isinstance(wish, tuple) and len(wish) == 2 and are_lengths(wish)


def need_paragraph(value):
    """Raise InvalidParagraph for what is no paragraph."""
    if not is_paragraph(value):
        raise InvalidParagraph("paragraph")


def need_costs(value):
    """Raise InvalidCosts for what is no costs."""
    if not are_costs(value):
        raise InvalidCosts("costs")


def is_step_of_way(paragraph, value):
    """Return whether any value is a pair that can stand in a way of a paragraph."""
    if not isinstance(value, tuple) or len(value) != 2 or not is_integer_within(value[0], 0, len(paragraph) - 1):
        return False
    item = paragraph[value[0]]
    if item[0] != "place":
        return False
    return (value[1] == PLAIN and item[1] is not None) or (value[1] == MARKED and item[2] is not None)


def is_way(paragraph, value):
    """Return whether any value is a way of a paragraph."""
    if not isinstance(value, tuple) or not all([is_step_of_way(paragraph, step) for step in value]):
        return False
    return are_ascending([step[0] for step in value])


def taken_by(paragraph, way):
    """Return the list of the triples (index, how, price) of all that is taken, behind the last item, too."""
    hows = {index: how for index, how in way}
    taken = []
    for index, item in enumerate(paragraph):
        if index in hows:
            taken.append((index, hows[index], item[1] if hows[index] == PLAIN else item[2]))
        elif item[0] == "end":
            taken.append((index, PLAIN, 0))
    return taken + [(len(paragraph), PLAIN, 0)]


def cost_by(paragraph, costs, way):
    """Return the cost of a way, or None if it is not let."""
    measures = Measures(paragraph)
    kept = Kept(-1, 0, (), 0, NO_TIGHTNESS, PLAIN)
    for index, how, price in taken_by(paragraph, way):
        width = width_of(costs[0], kept.line_count)
        verdict = judged(measures.line(kept.index, index), width, measures.closes(index))
        if verdict is None:
            return None
        cost = kept.cost + costs[1] * verdict[0] + price + joint_cost(costs, kept, verdict[1], how)
        kept = Kept(index, cost, (), kept.line_count + 1, verdict[1], how)
    return kept.cost + wish_cost(costs, kept.line_count)


def way_cost(paragraph, costs, way):
    """Return the cost of a way, or None if it is not let."""
    need_paragraph(paragraph)
    need_costs(costs)
    if not is_way(paragraph, way):
        raise InvalidWay("way")
    return cost_by(paragraph, costs, way)


def least_way(paragraph, costs):
    """Return any way of the least cost, or None if none is let."""
    need_paragraph(paragraph)
    need_costs(costs)
    best = best_way(paragraph, costs, FULL_KEY)
    return None if best is None else best[1]


def state_of_kept(kept):
    """Return the first four of the quintuple of a way that is kept."""
    return (kept.index, kept.line_count, kept.tightness, kept.how)


def price_paper(paragraph, costs):
    """Return any price paper with the least cost, or None if no way is let."""
    need_paragraph(paragraph)
    need_costs(costs)
    breaker = Breaker(paragraph, costs, FULL_KEY, False)
    best = breaker.told()
    if best is None:
        return None
    return (best[0], tuple(sorted([state_of_kept(kept) + (kept.cost,) for kept in breaker.all_kept])))


def kept_at_prices(kept, prices):
    """Return the list of the ways that are kept, at the prices of a paper, or None if one of these is too great."""
    priced = []
    for found in kept:
        state = state_of_kept(found)
        if state not in prices or prices[state] > found.cost:
            return None
        priced.append(Kept(found.index, prices[state], (), found.line_count, found.tightness, found.how))
    return priced


def is_quintuple(value):
    """Return whether any value is a quintuple of four that can stand in a price paper, and of a price."""
    if not isinstance(value, tuple) or len(value) != 5 or value[3] not in (PLAIN, MARKED):
        return False
    if not all([is_integer(number) for number in (*value[:3], value[4])]):
        return False
    return value[4] >= LEAST_PRICE_OF_PAPER


def is_form_of_paper(value):
    """Return whether any value is a pair of an integer and of a row of quintuples, which ascend."""
    if not isinstance(value, tuple) or len(value) != 2 or not is_integer(value[0]):
        return False
    if value[0] < LEAST_PRICE_OF_PAPER or not isinstance(value[1], tuple):
        return False
    if not all([is_quintuple(row) for row in value[1]]):
        return False
    return are_ascending([row[:4] for row in value[1]])


def is_price_paper(paragraph, costs, value):
    """Return whether any value is a price paper."""
    need_paragraph(paragraph)
    need_costs(costs)
    if not is_form_of_paper(value):
        return False
    prices = {row[:4]: row[4] for row in value[1]}
    breaker = Breaker(paragraph, costs, FULL_KEY, False)
    for stop in breaker.measures.stops():
        priced = kept_at_prices(breaker.led_to(stop), prices)
        if priced is None:
            return False
        breaker.keep_at(stop, priced)
    best = breaker.best_end()
    return len(breaker.all_kept) == len(prices) and (best is None or value[0] <= best[0])
