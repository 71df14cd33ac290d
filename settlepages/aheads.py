"""What a text is cut into, told ahead of all answers."""

from settlepages.turns import NO_MOMENT, checked_paths, pieces_cut


class Past:
    """How a run came to where it is: a moment's number, its answers, its pieces, and whether the last one came."""

    def __init__(self, number, answers, pieces, ended):
        self.number = number
        self.answers = answers
        self.pieces = pieces
        self.ended = ended


def past_behind(paths, past, turn):
    """Return the past of a run behind a turn more."""
    pieces = past.pieces
    if not past.ended:
        pieces = (*pieces, *pieces_cut(paths, turn))
    return Past(turn.target, past.answers + turn.answers, pieces, past.ended or turn.exhausted)


def do_part(one, other):
    """Return whether neither of two rows of pieces is the beginning of the other one."""
    many = min(len(one), len(other))
    return one[:many] != other[:many]


def read_ahead(paths):
    """Return the longest row of pieces of a run, and two answers by which runs part, or None.

    As long as no two runs part, one moment is come to with one row of pieces: so each is gone on from once.
    """
    longest = Past(0, (), (), False)
    queue = [longest]
    seen = {(0, False): True}
    at = 0
    while at < len(queue):
        past = queue[at]
        at += 1
        for turn in paths.turns[past.number]:
            behind = past_behind(paths, past, turn)
            if do_part(longest.pieces, behind.pieces):
                return longest.pieces, (longest.answers, behind.answers)
            if len(behind.pieces) > len(longest.pieces):
                longest = behind
            if behind.number != NO_MOMENT and (behind.number, behind.ended) not in seen:
                seen[(behind.number, behind.ended)] = True
                queue.append(behind)
    return longest.pieces, None


def cut_ahead(text):
    """Return the cut ahead of a text, or None if it has none."""
    pieces, parting = read_ahead(checked_paths(text))
    return pieces if parting is None else None


def parting_answers(text):
    """Return any pair of answers by which two runs of a text part, or None."""
    return read_ahead(checked_paths(text))[1]
