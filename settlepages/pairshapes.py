"""Programs of pairs, and the shapes of words."""

from settlepages.errors import Endless, InvalidPairs, InvalidWord, TooMany
from settlepages.kinds import are_ascending, is_integer_within
from settlepages.pairwork import LONGEST_SHAPE, LONGEST_TOLD, least_endless_word, pairs_that_words_meet, shape_work

ALL_LETTERS = "abcdefghijklmnopqrstuvwxyz"
MOST_LETTERS = 8
MOST_ROWS = 24
GREATEST_KERN = 99
LONGEST_WORD_SHAPED = 12


def is_letter_of(value, letters):
    """Return whether any value is one of some letters."""
    return isinstance(value, str) and len(value) == 1 and value in letters


def are_letters(value):
    """Return whether any value is the letters of a program."""
    if not isinstance(value, str) or not 1 <= len(value) <= MOST_LETTERS:
        return False
    return all([letter in ALL_LETTERS for letter in value]) and are_ascending(value)


def is_put(deed, letters, left, right):
    """Return whether a tuple is a deed that puts a letter between two sides."""
    if len(deed) != 5:
        return False
    _, letter, keeps_left, keeps_right, on = deed
    if not is_letter_of(letter, letters):
        return False
    if not is_integer_within(keeps_left, 0, 1) or not is_integer_within(keeps_right, 0, 1):
        return False
    if (left == "" and keeps_left == 0) or (right == "" and keeps_right == 0):
        return False
    return is_integer_within(on, 0, keeps_left + keeps_right)


def is_deed_between(value, letters, left, right):
    """Return whether any value is a deed of a program between two sides."""
    if not isinstance(value, tuple) or len(value) < 2 or not isinstance(value[0], str):
        return False
    if value[0] == "kern":
        return len(value) == 2 and is_integer_within(value[1], -GREATEST_KERN, GREATEST_KERN)
    return value[0] == "put" and is_put(value, letters, left, right)


def is_side(value, letters):
    """Return whether any value is an edge, or one of the letters."""
    return isinstance(value, str) and (value == "" or is_letter_of(value, letters))


def is_program_row(value, letters):
    """Return whether any value is a row of a program with some letters."""
    if not isinstance(value, tuple) or len(value) != 3:
        return False
    left, right, deed = value
    if not is_side(left, letters) or not is_side(right, letters) or left + right == "":
        return False
    return is_deed_between(deed, letters, left, right)


def is_pairs(value):
    """Return whether any value is a program."""
    if not isinstance(value, tuple) or len(value) != 2:
        return False
    letters, rows = value
    if not are_letters(letters) or not isinstance(rows, tuple) or len(rows) > MOST_ROWS:
        return False
    if not all([is_program_row(row, letters) for row in rows]):
        return False
    unlike = {row[:2]: True for row in rows}
    return len(unlike) == len(rows)


def need_pairs(value):
    """Raise InvalidPairs for what is no program."""
    if not is_pairs(value):
        raise InvalidPairs("pairs")


def is_too_long(met):
    """Return whether one of the pairs that words meet tells too many things."""
    return any([outcome[0] > LONGEST_TOLD for outcome in met.values()])


def need_short(value):
    """Check that any value is a short program, and return the dict of the pairs that words meet."""
    need_pairs(value)
    met = pairs_that_words_meet(value)
    if any([outcome is None for outcome in met.values()]):
        raise Endless("pairs")
    if is_too_long(met):
        raise TooMany(LONGEST_TOLD)
    return met


def shape_of(pairs, word):
    """Return the shape of a word, or None if it has none."""
    need_pairs(pairs)
    if not isinstance(word, str) or not 1 <= len(word) <= LONGEST_WORD_SHAPED:
        raise InvalidWord("word")
    if not all([letter in pairs[0] for letter in word]):
        raise InvalidWord("word")
    found = shape_work(pairs, word)
    if found is None:
        return None
    if found[0] > LONGEST_SHAPE:
        raise TooMany(LONGEST_SHAPE)
    return found[1]


def endless_word(pairs):
    """Return the least word without a shape, or None."""
    need_pairs(pairs)
    return least_endless_word(pairs)


def pairs_met(calm):
    """Return the ascending list of the quadruples (standing, right, told, standing behind) of all pairs met."""
    met = need_short(calm)
    return [(*pair, met[pair][1], met[pair][2]) for pair in sorted(met)]
