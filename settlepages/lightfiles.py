"""Files of the least weight by which rows of marks are put."""

from settlepages.errors import InvalidMarks
from settlepages.fileforms import file_form
from settlepages.keyvalues import is_pair
from settlepages.kinds import is_integer_within, is_sign
from settlepages.movefiles import GREATEST_LENGTH, need_file, weight_of_deed

MOST_MARKS = 12
NOTHING_KEPT = (None, None)


def is_mark(value):
    """Return whether any value is a mark."""
    return is_pair(value) and is_integer_within(value[0], 0, GREATEST_LENGTH) and is_sign(value[1])


def need_row_of_marks(value):
    """Raise InvalidMarks for what is no row of 1 to 12 marks."""
    if not isinstance(value, tuple) or not 1 <= len(value) <= MOST_MARKS or not all([is_mark(mark) for mark in value]):
        raise InvalidMarks("marks")


def moves_by(length, kept):
    """Return the list of the pairs of a row of at most one deed that goes a length, and of what the slots keep then."""
    if length == 0:
        return [((), kept)]
    if length in kept:
        return [((("go", kept.index(length)),), kept)]
    return [
        ((("move", length),), kept),
        ((("keep", 0, length),), (length, kept[1])),
        ((("keep", 1, length),), (kept[0], length)),
    ]


def weight_of_deeds(deeds):
    """Return the weight of a row of deeds."""
    return sum([weight_of_deed(deed) for deed in deeds])


def lightest(marks):
    """Return the lightest row of deeds that puts marks, each move being one deed.

    For all that the slots can keep behind each mark, the lightest row that comes to this is kept.
    """
    found = {NOTHING_KEPT: (0, ())}
    place = 0
    for number, sign in marks:
        further = {}
        for kept in found:
            weight, row = found[kept]
            for deeds, behind in moves_by(number - place, kept):
                done = deeds + (("put", sign),)
                offer = (weight + weight_of_deeds(done), row + done)
                if behind not in further or offer < further[behind]:
                    further[behind] = offer
        found = further
        place = number
    return min([found[kept] for kept in found])[1]


def puts_marks(file, marks):
    """Return whether a row of marks is put by a file."""
    need_file(file)
    need_row_of_marks(marks)
    return file_form(file)[0] == tuple([((number, 1, 0, 0), sign) for number, sign in marks])


def light_file(marks):
    """Return any file of the least weight by which marks are put, and in which each move is one deed."""
    need_row_of_marks(marks)
    return lightest(marks)
