"""How a table may write the tokens of a row, one behind the other.

What stands behind some tokens is one of these: "new" (behind a line feed, or at the beginning), "within",
"skip", and "name", which is "skip" behind a name of letters that one more letter would be part of.
"""

from settlepages.cutting import LONGEST_NAME, PAR, SPACE, standing_behind_name
from settlepages.kinds import SIGNS, kind_in


def least_sign_of(kinds, kind):
    """Return the least sign of a kind, or None."""
    found = [sign for sign in SIGNS if kind_in(kinds, sign) == kind]
    return min(found) if found else None


class Writer:
    """The kinds by which rows are written, and the least signs that call names and begin remarks."""

    def __init__(self, kinds):
        self.kinds = kinds
        self.call = least_sign_of(kinds, 0)
        self.remark = least_sign_of(kinds, 8)

    def line_end(self, standing):
        """Return the least signs that end a line so that nothing comes, or None."""
        if standing == "new":
            return ""
        if standing != "within":
            return "\n"
        return None if self.remark is None else self.remark + "\n"

    def name_moves(self, word):
        """Return the list of the pairs (signs, what stands behind) by which a name comes of its call."""
        letters = all([kind_in(self.kinds, sign) == 5 for sign in word])
        if self.call is None or (len(word) > 1 and not letters):
            return []
        behind = standing_behind_name(self.kinds, word)
        if letters and len(word) < LONGEST_NAME:
            behind = "name"
        return [(self.call + word, behind)]

    def moves(self, token, standing):
        """Return the list of the pairs (signs, what stands behind) by which a token may come next.

        A blank is left out where a line feed does the same: what can be written behind a blank
        can be written behind a line feed too, and a line feed is the least of all signs.
        """
        if token == SPACE:
            return [("\n", "new")] if standing == "within" else []
        if token[0] == "name":
            moves = self.name_moves(token[1])
            if token == PAR and standing == "new":
                moves.append(("\n", "new"))
            return moves
        kind, sign = token
        if kind_in(self.kinds, sign) != kind or (kind == 5 and standing == "name"):
            return []
        return [(sign, "within")]
