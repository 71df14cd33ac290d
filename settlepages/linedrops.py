"""What a breaker may drop for ever."""

from settlepages.breakers import FULL_KEY, Breaker
from settlepages.errors import InvalidLot
from settlepages.paragraphs import is_item, need_costs, need_paragraph

MOST_IN_LOT = 20
NARROW_COSTS = ((10,), 0, 0, 0, (0, 0))
WIDE_COSTS = ((1000,), 0, 0, 0, (0, 0))
BARE_PLACE = ("place", 0, None, 0, 0, 0)


def need_lot(value):
    """Raise InvalidLot for what is no lot."""
    if not isinstance(value, tuple) or len(value) > MOST_IN_LOT:
        raise InvalidLot("lot")
    if not all([is_item(item) and item[0] in ("gap", "place") for item in value]):
        raise InvalidLot("lot")


def is_item_safe(item):
    """Return whether a line that is too wide ahead of a gap or a place stays too wide behind it."""
    if item[0] == "gap":
        return item[3] <= item[1]
    return item[3] <= item[5]


def is_safe(lot):
    """Return whether a lot is safe."""
    need_lot(lot)
    return all([is_item_safe(item) for item in lot])


def dropping_way(paragraph, costs):
    """Return what dropping tells."""
    need_paragraph(paragraph)
    need_costs(costs)
    best = Breaker(paragraph, costs, FULL_KEY, True).told()
    return None if best is None else best[1]


def dropped_by(item):
    """Return a paragraph of one line that is too wide up to a place, though not as a whole, and its costs."""
    if item[0] == "gap":
        return (("box", 11), BARE_PLACE, item), NARROW_COSTS
    return (("box", 1000 - item[5]), item), WIDE_COSTS


def dropped_pair(lot):
    """Return any pair of a paragraph of a lot, and of costs, for which dropping is wrong, or None."""
    need_lot(lot)
    for item in lot:
        if not is_item_safe(item):
            return dropped_by(item)
    return None
