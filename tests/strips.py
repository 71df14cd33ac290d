"""A slow way to set strips, with fractions, and to take lines; and random strips for the tests."""

from fractions import Fraction
from math import floor


def sign(letter="a"):
    return ("sign", letter)


def kern(number):
    return ("kern", number)


def box(*things):
    return ("box", things)


def place(number=0):
    return ("place", number)


def space(width=0, stretch=0, order=0, shrink=0, other=0):
    return ("space", width, stretch, order, shrink, other)


def width_slowly(things):
    widths = {"sign": lambda thing: 10, "place": lambda thing: 0, "box": lambda thing: width_slowly(thing[1])}
    return sum(widths.get(thing[0], lambda thing: thing[1])(thing) for thing in things)


def share_slowly(strip, excess):
    """The word of a strip, or what each of its things gives of 1, as fractions."""
    at = 2 if excess > 0 else 4
    given = [(thing[at + 1], thing[at]) if thing[0] == "space" and thing[at] > 0 else (-1, 0) for thing in strip]
    rules = max([order for order, _ in given], default=-1)
    whole = sum(amount for order, amount in given if order == rules)
    if excess == 0:
        return [Fraction(0)] * len(strip)
    if excess > 0 and rules < 0:
        return ("loose",)
    if excess < 0 and (rules < 0 or (rules == 0 and whole + excess < 0)):
        return ("tight",)
    return [Fraction(amount, whole) if order == rules else Fraction(0) for order, amount in given]


def exact_places(strip, width):
    """The places of all things of a strip as they would be with fractions, and the width; or the word."""
    excess = width - width_slowly(strip)
    shares = share_slowly(strip, excess)
    if isinstance(shares, tuple):
        return shares
    return [width_slowly(strip[:at]) + excess * sum(shares[:at]) for at in range(len(strip) + 1)]


def leaves_slowly(things, start):
    found = []
    for at, thing in enumerate(things):
        here = start + width_slowly(things[:at])
        found += leaves_slowly(thing[1], here) if thing[0] == "box" else [here]
    return found


def set_slowly(strip, width):
    """What the setting of a strip to a width tells."""
    places = exact_places(strip, width)
    if isinstance(places, tuple):
        return places
    found = []
    for thing, at in zip(strip, places):
        found += leaves_slowly((thing,), floor(at))
    return ("set", (*found, width))


def halves_slowly(strip, at, width):
    """What the setting of both halves of a strip tells, or the word of the strip."""
    places = exact_places(strip, width)
    if isinstance(places, tuple):
        return places
    first = floor(places[at])
    one, two = set_slowly(strip[:at], first), set_slowly(strip[at:], width - first)
    assert one[0] == two[0] == "set"
    return ("set", (*one[1][:-1], *(first + leaf for leaf in two[1])))


def random_thing(source, depth, great, widths):
    sort = source.choice(("sign", "kern", "place", "space", "space", "space", "box"))
    if sort == "sign":
        return sign()
    if sort == "kern":
        return kern(source.choice(widths))
    if sort == "place":
        return place(source.randint(-3, 3))
    if sort == "box" and depth > 0:
        return ("box", random_strip(source, 3, depth - 1, great, widths))
    amounts = (0, 0, *range(1, great + 1))
    return space(source.choice(widths), source.choice(amounts), source.choice((0, 0, 0, 0, 1, 2)), source.choice(amounts), source.choice((0, 0, 0, 0, 1, 2)))


def random_strip(source, many, depth=2, great=4, widths=(0, 3, -4, 11)):
    return tuple(random_thing(source, depth, great, widths) for _ in range(source.randint(0, many)))


def random_passage(source, many, great=3, widths=(-9, -8, -10, 1)):
    """A passage with narrow lines, so that small widths matter."""
    things = []
    for _ in range(source.randint(1, many)):
        for thing in random_strip(source, 3, 1, great, widths):
            things += [thing, kern(-9)] if thing[0] == "sign" else [thing]
        things.append(place())
    return tuple(things)


def line_slowly(passage, first, last):
    """The things of the line between two places."""
    places = [-1, *(at for at, thing in enumerate(passage) if thing[0] == "place")]
    things = list(passage[places[first + 1] + 1:places[last + 1]])
    while things and things[0][0] not in ("sign", "box"):
        things.pop(0)
    return tuple(things)


def does_fit_slowly(line, much, width):
    excess = width - width_slowly(line)
    at = 2 if excess > 0 else 4
    spaces = [thing for thing in line if thing[0] == "space"]
    if width < 0 or width > 10 ** 9:
        return False
    if excess == 0 or any(thing[at] > 0 and thing[at + 1] > 0 for thing in spaces):
        return True
    whole = sum(thing[at] for thing in spaces)
    return excess <= much * whole if excess > 0 else -excess <= whole


def many_places(passage):
    return sum(thing[0] == "place" for thing in passage)


def all_lines(passage, many=None):
    """All lines of a passage, as rows of places."""
    last = many_places(passage) - 1
    rows = [()]
    found = []
    while rows:
        row = rows.pop()
        for at in range(row[-1] + 1 if row else 0, last + 1):
            if at == last:
                found.append(row + (at,))
            else:
                rows.append(row + (at,))
    return [row for row in found if many is None or len(row) == many]


def do_lines_fit(passage, much, lines, widths):
    return all(
        does_fit_slowly(line_slowly(passage, first, last), much, width) for first, last, width in zip((-1, *lines), lines, widths)
    )
