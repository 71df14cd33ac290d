"""How a text is cut into tokens."""

from settlepages.checks import need_table, need_text
from settlepages.errors import InvalidIndex, InvalidStanding
from settlepages.kinds import is_integer_within, kind_in, kinds_of

STANDINGS = ("new", "within", "skip")
LONGEST_NAME = 20
SPACE = (4, " ")
PAR = ("name", "par")


def name_end(kinds, text, at):
    """Return the index behind the name whose call stands at an index."""
    end = at + 1
    while end <= at + LONGEST_NAME and end < len(text) and kind_in(kinds, text[end]) == 5:
        end += 1
    return max(end, at + 2)


def standing_behind_name(kinds, word):
    """Return the standing behind a name."""
    if word == "\n":
        return "new"
    if kind_in(kinds, word[0]) in (4, 5):
        return "skip"
    return "within"


def cut_name(kinds, text, at):
    """Cut the name whose call stands at an index."""
    behind = name_end(kinds, text, at)
    word = text[at + 1:behind]
    return ("name", word), behind, standing_behind_name(kinds, word)


def token_of_line_end(standing):
    """Return the token that comes of a line's end in a standing, or None."""
    if standing == "new":
        return PAR
    if standing == "within":
        return SPACE
    return None


def cut_at(kinds, text, at, standing):
    """Cut once, by a dict of kinds: return the token or None, the index behind, and the standing there."""
    sign = text[at]
    kind = kind_in(kinds, sign)
    if kind == 0:
        return cut_name(kinds, text, at)
    if kind == 4:
        if standing == "within":
            return SPACE, at + 1, "skip"
        return None, at + 1, standing
    if kind == 8:
        return None, text.find("\n", at) + 1, "new"
    if kind == 9:
        return token_of_line_end(standing), text.find("\n", at) + 1, "new"
    return (kind, sign), at + 1, "within"


def next_piece(kinds, text, at, standing):
    """Cut until a token comes: return it, its index, the index behind, and the standing there.

    Without a token it is (None, length, length, "new"): behind its last line feed a text is always new.
    """
    while at < len(text):
        token, behind, standing = cut_at(kinds, text, at, standing)
        if token is not None:
            return token, at, behind, standing
        at = behind
    return None, len(text), len(text), "new"


def all_pieces(kinds, text):
    """Return the list of the pieces of all tokens that come from a text, all cut by the same kinds."""
    pieces = []
    piece = next_piece(kinds, text, 0, "new")
    while piece[0] is not None:
        pieces.append(piece)
        piece = next_piece(kinds, text, piece[2], piece[3])
    return pieces


def tokens_told(kinds, text):
    """Return the row of the tokens that come from a text, all cut by the same kinds."""
    return tuple([piece[0] for piece in all_pieces(kinds, text)])


def cut_once(table, text, index, standing):
    """Return the token that comes or None, the index behind what is taken off, and the standing there."""
    need_table(table)
    need_text(text)
    if not is_integer_within(index, 0, len(text) - 1):
        raise InvalidIndex("index")
    if not isinstance(standing, str) or standing not in STANDINGS:
        raise InvalidStanding("standing")
    return cut_at(kinds_of(table), text, index, standing)


def cuts_of(table, text):
    """Return the list of the triples (token, index, index behind) of all tokens that come from a text."""
    need_table(table)
    need_text(text)
    return [(token, at, behind) for token, at, behind, _ in all_pieces(kinds_of(table), text)]
