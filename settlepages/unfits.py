"""Pieces that are got ahead by stops, beside those of runs."""

from settlepages.segments import Part
from settlepages.turns import NO_MOMENT, last_piece, pieces_cut


class Beside:
    """A run by some answers at a moment, whether its last piece came, what is got ahead, and up to where."""

    def __init__(self, number, answers, ended, queue, upto):
        self.number = number
        self.answers = answers
        self.ended = ended
        self.queue = queue
        self.upto = upto

    def name(self):
        """Return a key for all of it but the answers."""
        return repr((self.number, self.ended, self.queue, self.upto))


def got_ahead(text, kinds, ends, upto):
    """Return the row of the pieces that are got next by some kinds, and up to where; ends are stops and the end."""
    got = []
    while not got and upto < len(text):
        end = min([later for later in ends if later > upto])
        got = Part(text, upto, end, False).pieces_got(kinds)
        upto = end
    if upto == len(text):
        got.append(last_piece(text))
    return tuple(got), upto


def beside_behind(paths, ends, beside, turn):
    """Return what stands beside a run behind a turn more, or None if a piece is not that got ahead."""
    queue = beside.queue
    upto = beside.upto
    pieces = [] if beside.ended else pieces_cut(paths, turn)
    for piece in pieces:
        if not queue:
            queue, upto = got_ahead(paths.text, paths.kinds_at(beside.number), ends, upto)
        if queue[0] != piece:
            return None
        queue = queue[1:]
    return Beside(turn.target, beside.answers + turn.answers, beside.ended or turn.exhausted, queue, upto)


def first_unfit(paths, stops):
    """Return any answers by which a run has a piece that is not that got ahead by stops, or None."""
    ends = [*stops, len(paths.text)]
    queue = [Beside(0, (), False, (), 0)]
    seen = {}
    at = 0
    while at < len(queue):
        beside = queue[at]
        at += 1
        for turn in paths.turns[beside.number]:
            behind = beside_behind(paths, ends, beside, turn)
            if behind is None:
                return beside.answers + turn.answers
            if behind.number != NO_MOMENT and behind.name() not in seen:
                seen[behind.name()] = True
                queue.append(behind)
    return None
