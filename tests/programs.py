"""Programs of pairs for the tests."""

# Its pairs tell up to 230 things; without the rows 0 and 4 up to 40, without the rows 1 and 7 up to 41.
WORDY = ("abcdefgh", (
    ("c", "d", ("put", "a", 1, 0, 0)), ("e", "d", ("put", "a", 1, 1, 0)), ("b", "d", ("put", "e", 1, 1, 0)),
    ("b", "a", ("put", "d", 1, 1, 0)), ("b", "e", ("put", "f", 1, 1, 0)), ("a", "a", ("put", "f", 1, 1, 0)),
    ("f", "a", ("put", "h", 1, 1, 0)), ("e", "a", ("put", "a", 1, 1, 1)), ("c", "a", ("put", "e", 1, 1, 0)),
    ("a", "f", ("put", "e", 1, 1, 0)), ("b", "f", ("put", "a", 1, 1, 1)), ("h", "a", ("put", "c", 1, 0, 0)),
    ("a", "e", ("put", "h", 1, 1, 0)), ("c", "e", ("put", "b", 1, 1, 1)), ("f", "g", ("put", "a", 1, 1, 0)),
    ("h", "c", ("put", "b", 1, 1, 0)), ("h", "f", ("put", "c", 1, 1, 0)), ("b", "c", ("put", "f", 1, 1, 1)),
    ("h", "e", ("put", "f", 1, 1, 0)), ("f", "e", ("put", "g", 1, 1, 0)), ("f", "b", ("put", "c", 1, 1, 0)),
    ("f", "c", ("put", "f", 1, 1, 2)), ("e", "f", ("put", "h", 1, 1, 1)), ("h", "b", ("put", "f", 1, 1, 1)),
))


def without_rows(program, indices):
    """Return a program without the rows with some indices."""
    letters, rows = program
    return (letters, tuple([row for at, row in enumerate(rows) if at not in indices]))
