"""Strips of things, passages, and how strips are set to widths."""

from settlepages.errors import InvalidPassage, InvalidStrip, InvalidWidth
from settlepages.kinds import is_integer_within, is_sign

MOST_THINGS = 60
MOST_BOXES_AROUND = 5
MOST_PLACES = 10
MOST_OF_ORDER = 300
GREATEST_SPACE = 10 ** 6
FARTHEST_PLACE = 10000
GREATEST_SHARE = 100
HIGHEST_ORDER = 2
GREATEST_WIDTH = 10 ** 9
WIDTH_OF_SIGN = 10
# Where a space tells its stretch, and its shrink; the order of either stands behind it.
STRETCH = 2
SHRINK = 4


def is_space(value):
    """Return whether a tuple that begins with its word is a space."""
    if len(value) != 6 or not is_integer_within(value[1], -GREATEST_SPACE, GREATEST_SPACE):
        return False
    for at in (STRETCH, SHRINK):
        if not is_integer_within(value[at], 0, GREATEST_SHARE):
            return False
        if not is_integer_within(value[at + 1], 0, HIGHEST_ORDER):
            return False
    return True


def is_thing(value):
    """Return whether any value is a thing of a strip, whatever stands in a box."""
    if not isinstance(value, tuple) or len(value) < 2 or not isinstance(value[0], str):
        return False
    if value[0] == "space":
        return is_space(value)
    if len(value) != 2:
        return False
    if value[0] == "sign":
        return is_sign(value[1])
    if value[0] == "kern":
        return is_integer_within(value[1], -GREATEST_SPACE, GREATEST_SPACE)
    if value[0] == "place":
        return is_integer_within(value[1], -FARTHEST_PLACE, FARTHEST_PLACE)
    return value[0] == "box"


def all_things(value):
    """Return the list of all things of a strip, with those in boxes, or None for any value that is no such row."""
    found = []
    left = [(value, 0)]
    while left:
        things, around = left.pop()
        if not isinstance(things, tuple) or len(found) + len(things) > MOST_THINGS:
            return None
        for thing in things:
            if not is_thing(thing) or (thing[0] == "box" and around > MOST_BOXES_AROUND):
                return None
            if thing[0] == "box":
                left.append((thing[1], around + 1))
            found.append(thing)
    return found


def is_strip(value):
    """Return whether any value is a strip."""
    things = all_things(value)
    if things is None:
        return False
    spaces = [thing for thing in things if thing[0] == "space"]
    for at in (STRETCH, SHRINK):
        for order in range(HIGHEST_ORDER + 1):
            if sum([space[at] for space in spaces if space[at + 1] == order]) > MOST_OF_ORDER:
                return False
    return True


def places_in(strip):
    """Return the list of the indices of the places that stand in no box."""
    return [at for at, thing in enumerate(strip) if thing[0] == "place"]


def is_passage(value):
    """Return whether any value is a passage."""
    if not is_strip(value) or value == () or value[-1][0] != "place":
        return False
    return len(places_in(value)) <= MOST_PLACES


def need_strip(value):
    """Raise InvalidStrip for what is no strip."""
    if not is_strip(value):
        raise InvalidStrip("strip")


def need_passage(value):
    """Raise InvalidPassage for what is no passage."""
    if not is_passage(value):
        raise InvalidPassage("passage")


def need_width(value):
    """Raise InvalidWidth for what is no width."""
    if not is_integer_within(value, -GREATEST_WIDTH, GREATEST_WIDTH):
        raise InvalidWidth("width")


def thing_width(thing):
    """Return the width of a thing."""
    if thing[0] == "sign":
        return WIDTH_OF_SIGN
    if thing[0] == "place":
        return 0
    if thing[0] == "box":
        return things_width(thing[1])
    return thing[1]


def things_width(things):
    """Return the sum of the widths of things."""
    return sum([thing_width(thing) for thing in things])


def shares_of(strip, at):
    """Return the order that rules, or None, and the list of what each thing gives by it: stretch, or shrink."""
    orders = [thing[at + 1] for thing in strip if thing[0] == "space" and thing[at] > 0]
    if not orders:
        return None, [0] * len(strip)
    rules = max(orders)
    return rules, [thing[at] if thing[0] == "space" and thing[at + 1] == rules else 0 for thing in strip]


def word_of(excess, rules, whole):
    """Return the word for a strip that is not set, by its excess, what rules, and all that it gives, or ""."""
    if excess > 0 and rules is None:
        return "loose"
    if excess < 0 and (rules is None or (rules == 0 and whole < -excess)):
        return "tight"
    return ""


def places_of_things(strip, width):
    """Return the list of the places of all things of a strip, and of the width, or the word for one that is not set."""
    excess = width - things_width(strip)
    rules, shares = shares_of(strip, STRETCH if excess > 0 else SHRINK)
    whole = sum(shares)
    word = word_of(excess, rules, whole)
    if word:
        return word
    places = []
    ahead = 0
    part = 0
    for thing, share in zip(strip, shares):
        places.append(ahead + (excess * part // whole if excess != 0 else 0))
        ahead += thing_width(thing)
        part += share
    places.append(width)
    return places


def leaves_from(things, place):
    """Return the list of the places of all leaves of things that stand as they are, the first one at a place."""
    found = []
    for thing in things:
        if thing[0] == "box":
            found.extend(leaves_from(thing[1], place))
        else:
            found.append(place)
        place += thing_width(thing)
    return found


def leaves_at(strip, places):
    """Return the list of the places of all leaves of a strip whose things have places."""
    found = []
    for thing, place in zip(strip, places):
        found.extend(leaves_from((thing,), place))
    return found


def places_told(strip, width):
    """Return what the setting of a strip to a width tells."""
    places = places_of_things(strip, width)
    if isinstance(places, str):
        return (places,)
    return ("set", tuple(leaves_at(strip, places)) + (width,))


def strip_width(strip):
    """Return the sum of the widths of the things of a strip."""
    need_strip(strip)
    return things_width(strip)


def set_places(strip, width):
    """Return ("set", places) for a strip that is set to a width, or the word."""
    need_strip(strip)
    need_width(width)
    return places_told(strip, width)
