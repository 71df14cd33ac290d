"""The forms of files of moves, and spots that part two files."""

from settlepages.movefiles import done_file, need_file, told_from_spot

# The linears of the place, and of what the slots hold, in the spot from which a file is done.
FIRST_LINEARS = ((0, 1, 0, 0), (0, 0, 1, 0), (0, 0, 0, 1))
AMOUNT_OF_ONE = (1, 0, 0, 0)
# Two unlike linears tell unlike integers from one of these.
SPOTS_TO_TRY = ((0, 0, 0), (1, 0, 0), (0, 1, 0), (0, 0, 1))


def file_form(file):
    """Return the form of a file."""
    return done_file(file, FIRST_LINEARS, AMOUNT_OF_ONE)


def form_of_file(file):
    """Return the form of a file."""
    need_file(file)
    return file_form(file)


def parting_spot(file, other_file):
    """Return any spot from which two files do not show the same, or leave other spots, or None."""
    need_file(file)
    need_file(other_file)
    for spot in SPOTS_TO_TRY:
        if told_from_spot(file, spot) != told_from_spot(other_file, spot):
            return spot
    return None


def is_set_out(file):
    """Return whether a file shows the same from all spots with one place."""
    need_file(file)
    return all([linear[2:] == (0, 0) for linear, _ in file_form(file)[0]])
