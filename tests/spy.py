"""A slow way to tell moments, pieces and what is got ahead: by runs of their own, for all short answers."""

import itertools

from settlepages.cutting import cut_at
from settlepages.doing import take_turn
from settlepages.runstate import Fault, OutOfSteps, Run, Stopped, levels_told

STEPS = 400


class Spy(Run):
    """A run that keeps its pieces, and compares them with those got ahead by stops."""

    def __init__(self, text, answers, stops=None):
        super().__init__(text, answers, STEPS)
        self.told_pieces = []
        self.moments = []
        self.ends = None if stops is None else [*stops, len(text)]
        self.ahead_of_it = []
        self.upto = 0
        self.unfit = False

    def is_ended(self):
        return bool(self.told_pieces) and self.told_pieces[-1][0] is None

    def get_ahead(self):
        kinds = self.level_row[-1].kinds
        length = len(self.text)
        while not self.ahead_of_it and self.upto < length:
            end = min(end for end in self.ends if end > self.upto)
            at, standing = self.upto, "new"
            while at < end:
                token, behind, standing = cut_at(kinds, self.text[:end], at, standing)
                if token is not None:
                    self.ahead_of_it.append((token, at, behind, standing))
                at = behind
            self.upto = end
        if self.upto == length:
            self.ahead_of_it.append((None, length, length, "new"))

    def take(self):
        if self.waiting:
            return self.waiting.pop()
        was_ended = self.is_ended()
        if self.ends is not None and not was_ended and not self.ahead_of_it:
            self.get_ahead()
        found = super().take()
        if not was_ended:
            length = len(self.text)
            piece = (None, length, length, "new") if found is None else self.pieces[-1]
            self.told_pieces.append(piece)
            if self.ends is not None and self.ahead_of_it.pop(0) != piece:
                self.unfit = True
                self.ends = None
        return found

    def keep_moment(self):
        waiting = tuple(token for token, _ in reversed(self.waiting))
        tests = tuple(has_else for _, has_else in self.tests)
        self.moments.append((self.at, self.standing, waiting, levels_told(self), tests))


def spied(text, answers, stops=None):
    """Run a text, and return the run."""
    run = Spy(text, answers, stops)
    try:
        run.keep_moment()
        while take_turn(run):
            run.keep_moment()
    except (Fault, Stopped, OutOfSteps):
        pass
    return run


def all_answers(many):
    """All rows of up to so many answers."""
    return [row for length in range(many + 1) for row in itertools.product((False, True), repeat=length)]


def do_part(one, other):
    """Whether neither of two rows of pieces is the beginning of the other one."""
    return any(left != right for left, right in zip(one, other))


def told_unmended(text, mends, pieces):
    """The pieces of a mended text, with indices told as the number of signs ahead that were not put in."""
    count = []
    for index in range(len(text) + 1):
        if index in mends:
            count += [index, index]
        count.append(index)
    return [(token, count[start], count[behind], standing) for token, start, behind, standing in pieces]


def line_starts(text):
    """The indices of all signs ahead of which a line feed stands."""
    return tuple(index for index in range(1, len(text)) if text[index - 1] == "\n")
