"""Parts of a text that are got ahead of its runs, from one break up to the next one, and what its runs cut there.

A break is the beginning of the text, a stop, or a mend, ahead of which a remark and a line feed are put in.
What a part is got ahead by are the kinds in force when a run is first to cut a token that stands behind its
beginning; this does not depend on how the text is parted ahead of it, as long as all of that fits.
"""

from settlepages.cutting import all_pieces, next_piece
from settlepages.turns import NO_MOMENT, pieces_cut

REMARK_PUT_IN = ";\n"


def line_starts(text):
    """Return the ascending list of 0 and of all indices of signs ahead of which a line feed stands."""
    return [0] + [at for at in range(1, len(text)) if text[at - 1] == "\n"]


class Part:
    """A part of a text between two breaks; a mend at its end has put signs in there."""

    def __init__(self, text, start, stop, is_mended):
        self.text = text
        self.start = start
        self.stop = stop
        self.is_mended = is_mended

    def signs_from(self, at):
        """Return the signs of the part from an index on, with those put in."""
        return self.text[at:self.stop] + (REMARK_PUT_IN if self.is_mended else "")

    def told_from(self, at, piece):
        """Return a piece of the signs from an index on as one of the text, in which nothing is put in."""
        token, start, behind, standing = piece
        return (token, min(at + start, self.stop), min(at + behind, self.stop), standing)

    def pieces_got(self, kinds):
        """Return the list of the pieces that are got ahead by some kinds."""
        return [self.told_from(self.start, piece) for piece in all_pieces(kinds, self.signs_from(self.start))]

    def is_reached(self, at, piece):
        """Return whether a run reads signs of the part when it cuts a piece from an index on."""
        return piece[1] >= self.start and (at < self.stop or (at == self.stop and self.is_mended))

    def is_cut_alike(self, kinds, at, standing, piece):
        """Return whether a run that cuts a piece, from an index and a standing on, finds the same in the part."""
        if at <= self.start:
            at, standing = self.start, "new"
        found = next_piece(kinds, self.signs_from(at), 0, standing)
        if piece[1] >= self.stop:
            return found[0] is None
        return found[0] is not None and self.told_from(at, found) == piece


def key_of_kinds(kinds):
    """Return the row of the pairs (sign, kind) of a dict of kinds."""
    return tuple(sorted(kinds.items()))


def all_seeks(paths):
    """Return the list of the unlike seeks of all runs: kinds, index and standing at first, piece that comes."""
    seeks = {}
    for number, moment in enumerate(paths.moments):
        kinds = key_of_kinds(paths.kinds_at(number))
        for turn in paths.turns[number]:
            at, standing = moment[:2]
            for piece in pieces_cut(paths, turn):
                seeks[(kinds, at, standing, piece)] = True
                at, standing = piece[2:]
    return [({sign: kind for sign, kind in seek[0]}, *seek[1:]) for seek in seeks]


def beginnings(paths, start):
    """Return a dict, by kinds, of all ways in which runs first cut a piece behind the beginning of a part.

    A way is the pair of the pieces from this one on, in its turn, and of the moment behind the turn.
    """
    found = {}
    for number, moment in enumerate(paths.moments):
        if moment[0] > start:
            continue
        kinds = key_of_kinds(paths.kinds_at(number))
        for turn in paths.turns[number]:
            at = moment[0]
            pieces = pieces_cut(paths, turn)
            for index, piece in enumerate(pieces):
                if at <= start <= piece[1]:
                    found.setdefault(kinds, []).append((pieces[index:], turn.target))
                at = piece[2]
    return found


def followed(pieces, got, many, stop):
    """Follow pieces of a run from where so many of those got ahead, up to a stop, were met.

    Return the pair of the index where they differ, or None, and of how many were met then, or None behind the end.
    """
    for piece in pieces:
        if piece[1] >= stop:
            return (got[many][1] if many < len(got) else None), None
        if many == len(got):
            return piece[1], None
        if got[many] != piece:
            return min(piece[1], got[many][1]), None
        many += 1
    return None, many


def least_difference(paths, ways, got, stop):
    """Return the least index where runs differ from the pieces got ahead up to a stop, or None."""
    indices = []
    queue = [(pieces, target, 0) for pieces, target in ways]
    seen = {}
    while queue:
        pieces, target, many = queue.pop()
        index, many = followed(pieces, got, many, stop)
        if index is not None:
            indices.append(index)
        if many is None or target == NO_MOMENT or target in seen:
            continue
        # How many were met follows from the moment, whose index stands behind the last one of them.
        seen[target] = True
        queue.extend([(pieces_cut(paths, turn), turn.target, many) for turn in paths.turns[target]])
    return min(indices) if indices else None


def differences(paths, part):
    """Return the list of the least indices, by kinds, where runs differ from what is got ahead of a part."""
    found = []
    for kinds, ways in beginnings(paths, part.start).items():
        got = part.pieces_got({sign: kind for sign, kind in kinds})
        index = least_difference(paths, ways, got, part.stop)
        if index is not None:
            found.append(index)
    return found


def part_limit(paths, part):
    """Return the least index where some run differs from what is got ahead of a part, or its end."""
    return min(differences(paths, part) + [part.stop])


def does_part_fit(paths, part):
    """Return whether all runs cut what is got ahead of a part; what is put in at its end may differ, too."""
    return not differences(paths, part)


def is_part_let(seeks, part):
    """Return whether all runs cut the same from a part as from the text without what is put in."""
    for kinds, at, standing, piece in seeks:
        if part.is_reached(at, piece):
            if not part.is_cut_alike(kinds, at, standing, piece):
                return False
    return True
