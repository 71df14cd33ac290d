"""The least texts of rows, and how many texts tell a row."""

from settlepages.checks import need_number, need_signs, need_table, need_text
from settlepages.cutting import LONGEST_NAME, PAR, SPACE, standing_behind_name, tokens_told
from settlepages.errors import TooMany
from settlepages.kinds import MOST_SIGNS, kind_in, kinds_of
from settlepages.orders import lesser
from settlepages.rowmoves import Writer
from settlepages.tokenrows import need_token_row

WRITER_STANDINGS = ("new", "within", "skip", "name")
MOST_COUNTED = 40


def least_move(writer, token, standing, behind):
    """Return the least text from a standing that begins with a token, or None; behind tells what can follow."""
    least = None
    for signs, there in writer.moves(token, standing):
        if behind[there] is not None:
            least = lesser(least, signs + behind[there])
    return least


def with_line_ends(writer, least):
    """Return a dict of the least texts by standings, in which a line may also be ended first."""
    found = {}
    for standing in WRITER_STANDINGS:
        end = writer.line_end(standing)
        ended = None if end is None or least["new"] is None else end + least["new"]
        found[standing] = lesser(least[standing], ended)
    return found


def written(kinds, row):
    """Return the least text that tells a row by a dict of kinds, or None."""
    writer = Writer(kinds)
    least = with_line_ends(writer, {"new": "", "within": None, "skip": None, "name": None})
    for token in reversed(row):
        moved = {standing: least_move(writer, token, standing, least) for standing in WRITER_STANDINGS}
        least = with_line_ends(writer, moved)
    return least["new"]


def least_text(table, row):
    """Return the least text of a row, or None if the table does not write it."""
    need_table(table)
    need_token_row(row)
    least = written(kinds_of(table), row)
    if least is not None and len(least) > MOST_SIGNS:
        raise TooMany(MOST_SIGNS)
    return least


def plain_text(table, text):
    """Return the least text that tells the row that a text tells."""
    need_table(table)
    need_text(text)
    kinds = kinds_of(table)
    return written(kinds, tokens_told(kinds, text))


class Reading:
    """A row that is read sign by sign.

    A point is a triple (index of the next token, mode, letters): the mode is a standing, "call" behind the
    sign that calls a name, "name" behind so many letters of it, or "rest" in a line of which nothing more comes.
    """

    def __init__(self, kinds, row):
        self.kinds = kinds
        self.row = row

    def is_next(self, index, token):
        """Return whether a token is the one with an index."""
        return index < len(self.row) and self.row[index] == token

    def begins_name(self, index, word):
        """Return whether the token with an index is a name that begins with some signs."""
        if index >= len(self.row) or self.row[index][0] != "name":
            return False
        return self.row[index][1][:len(word)] == word

    def behind_token(self, index, token, mode):
        """Return the point behind a token, or None if it is not the one that must come."""
        return (index + 1, mode, "") if self.is_next(index, token) else None

    def behind_letters(self, index, letters):
        """Return the point behind some letters of a name, or None."""
        if len(letters) == LONGEST_NAME:
            return self.behind_token(index, ("name", letters), "skip")
        return (index, "name", letters) if self.begins_name(index, letters) else None

    def behind_line_end(self, index, mode, behind):
        """Return the point behind a sign that ends a line."""
        if mode == "new":
            return self.behind_token(index, PAR, behind)
        if mode == "within":
            return self.behind_token(index, SPACE, behind)
        return (index, behind, "")

    def behind_plain(self, index, mode, sign):
        """Return the point behind a sign that stands in no name and no remark."""
        kind = kind_in(self.kinds, sign)
        if kind == 0:
            return (index, "call", "")
        if kind == 4:
            return self.behind_token(index, SPACE, "skip") if mode == "within" else (index, mode, "")
        if kind == 8:
            return (index, "rest", "")
        if kind == 9:
            return self.behind_line_end(index, mode, "new" if sign == "\n" else "rest")
        return self.behind_token(index, (kind, sign), "within")

    def behind(self, point, sign):
        """Return the point behind one sign more, or None if the row cannot be told any more."""
        index, mode, letters = point
        if mode == "rest":
            return (index, "new" if sign == "\n" else "rest", "")
        is_letter = kind_in(self.kinds, sign) == 5
        if is_letter and mode in ("call", "name"):
            return self.behind_letters(index, letters + sign)
        if mode == "call":
            return self.behind_token(index, ("name", sign), standing_behind_name(self.kinds, sign))
        if mode == "name":
            if not self.is_next(index, ("name", letters)):
                return None
            return self.behind_plain(index + 1, "skip", sign)
        return self.behind_plain(index, mode, sign)


def counts_behind(reading, counts, signs):
    """Return the dict of how many texts come to each point, with one sign more of these."""
    found = {}
    for point, count in counts.items():
        for sign in signs:
            behind = reading.behind(point, sign)
            if behind is not None:
                found[behind] = found.get(behind, 0) + count
    return found


def count_texts(table, row, signs, many):
    """Return how many texts of so many signs, all of them out of these or line feeds, tell a row."""
    need_table(table)
    need_token_row(row)
    need_signs(signs)
    need_number(many, 0, MOST_COUNTED)
    reading = Reading(kinds_of(table), row)
    counts = {(0, "new", ""): 1}
    for at in range(many):
        last = at == many - 1
        counts = counts_behind(reading, counts, ("\n",) if last else ("\n", *signs))
    return counts.get((len(row), "new", ""), 0)
