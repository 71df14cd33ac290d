"""Files of moves: what they show from a spot, what they leave, and what they weigh."""

from settlepages.errors import InvalidFile, InvalidSpot
from settlepages.kinds import is_integer_within, is_sign

MOST_DEEDS = 60
GREATEST_LENGTH = 10 ** 9
PLAIN_DEEDS = ("put", "go", "push", "pop")


def is_length(value):
    """Return whether any value is a length."""
    return is_integer_within(value, -GREATEST_LENGTH, GREATEST_LENGTH)


def is_slot(value):
    """Return whether any value is a slot."""
    return is_integer_within(value, 0, 1)


def is_deed(value):
    """Return whether any value is a deed of a file."""
    if not isinstance(value, tuple) or len(value) == 0 or not isinstance(value[0], str):
        return False
    if value[0] in ("push", "pop"):
        return len(value) == 1
    if value[0] == "keep":
        return len(value) == 3 and is_slot(value[1]) and is_length(value[2])
    if len(value) != 2:
        return False
    if value[0] == "put":
        return is_sign(value[1])
    if value[0] == "go":
        return is_slot(value[1])
    return value[0] == "move" and is_length(value[1])


def are_paired(deeds):
    """Return whether pushes and pops are paired."""
    pushed = 0
    for deed in deeds:
        if deed[0] == "push":
            pushed += 1
        elif deed[0] == "pop":
            pushed -= 1
        if pushed < 0:
            return False
    return pushed == 0


def is_file(value):
    """Return whether any value is a file."""
    if not isinstance(value, tuple) or len(value) > MOST_DEEDS or not all([is_deed(deed) for deed in value]):
        return False
    return are_paired(value)


def is_spot(value):
    """Return whether any value is a spot."""
    return isinstance(value, tuple) and len(value) == 3 and all([is_length(length) for length in value])


def need_file(value):
    """Raise InvalidFile for what is no file."""
    if not is_file(value):
        raise InvalidFile("file")


def need_spot(value):
    """Raise InvalidSpot for what is no spot."""
    if not is_spot(value):
        raise InvalidSpot("spot")


def added(vector, other):
    """Return the sum of two rows of integers."""
    return tuple([one + two for one, two in zip(vector, other)])


def done_file(file, start, one):
    """Return the row of what a file shows, and the row that it leaves, from three rows of integers.

    The row one stands for the length 1. So a file can be done from integers, and from linears.
    """
    spot = start
    pushed = []
    shown = []
    for deed in file:
        if deed[0] == "put":
            shown.append((spot[0], deed[1]))
        elif deed[0] == "push":
            pushed.append(spot)
        elif deed[0] == "pop":
            spot = pushed.pop()
        else:
            spot = spot_moved(spot, deed, one)
    return (tuple(shown), spot)


def spot_moved(spot, deed, one):
    """Return the spot behind a move, a keep or a go."""
    if deed[0] == "go":
        return (added(spot[0], spot[1 + deed[1]]),) + spot[1:]
    length = tuple([deed[-1] * unit for unit in one])
    place = added(spot[0], length)
    if deed[0] == "move":
        return (place,) + spot[1:]
    return (place, length, spot[2]) if deed[1] == 0 else (place, spot[1], length)


def told_from_spot(file, spot):
    """Return the row of what a file shows from a spot, and the row of what it leaves."""
    shown, left = done_file(file, tuple([(length,) for length in spot]), (1,))
    return (tuple([(place[0], sign) for place, sign in shown]), tuple([length[0] for length in left]))


def weight_of_deed(deed):
    """Return the weight of a deed."""
    if deed[0] in PLAIN_DEEDS:
        return 1
    return 2 + len(str(abs(deed[-1])))


def shown_by_file(file, spot):
    """Return the row of what a file shows from a spot, and the row of the three integers that it leaves."""
    need_file(file)
    need_spot(spot)
    return told_from_spot(file, spot)


def file_weight(file):
    """Return the weight of a file."""
    need_file(file)
    return sum([weight_of_deed(deed) for deed in file])
