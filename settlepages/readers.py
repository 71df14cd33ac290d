"""Readers, which read a text line by line, and take lines back."""

from settlepages.checks import MOST_STEPS
from settlepages.doing import run_on
from settlepages.errors import CannotEnter, InvalidLine, NothingToRedo, NothingToUndo
from settlepages.kinds import is_text
from settlepages.meanings import level_of
from settlepages.runs import state_handed
from settlepages.runstate import Run

MOST_LINES = 40
FIRST_STATE = ((("text", (), ()),), ((),), (), (), 0, False)


def need_line(value):
    """Raise InvalidLine for what is no text with one line feed."""
    if not is_text(value) or value.count("\n") != 1:
        raise InvalidLine("line")


def run_by_state(text, state, steps):
    """Return the run of a text as by a state that was handed over behind so many steps."""
    levels, rows, tests, answers, index, stood_open = state
    run = Run(text, answers, MOST_STEPS)
    run.ahead = index
    run.level_row = [level_of(level) for level in levels]
    run.rows = [list(row) for row in rows]
    run.tests = [[True, has_else] for has_else in tests]
    run.steps = steps
    run.stood_open = stood_open
    return run


class Behind:
    """What stands behind a line: the state that is handed over, or None, and how many steps were done."""

    def __init__(self, state, steps):
        self.state = state
        self.steps = steps


def line_read(line, behind):
    """Return the row of the things that come by a line to the row of the text, and what stands behind it."""
    run = run_by_state(line, behind.state, behind.steps)
    many = len(run.rows[0])
    _, hands_over = run_on(run)
    state = state_handed(run) if hands_over else None
    return tuple(run.rows[0][many:]), Behind(state, run.steps)


class Reader:
    """A reader: its lines, what stands behind each of them, and the lines that were taken back, the last one last."""

    def __init__(self):
        self.lines_read = []
        self.behind_lines = [Behind(FIRST_STATE, 0)]
        self.taken_back = []

    def enter(self, line):
        """Read one line more, and return the row of the things that come by it to the row of the text."""
        need_line(line)
        behind = self.behind_lines[-1]
        if behind.state is None or len(self.lines_read) == MOST_LINES:
            raise CannotEnter("line")
        things, behind = line_read(line, behind)
        self.lines_read.append(line)
        self.behind_lines.append(behind)
        self.taken_back = []
        return things

    def undo(self):
        """Take back the last line that is not taken back yet."""
        if not self.lines_read:
            raise NothingToUndo("line")
        self.taken_back.append((self.lines_read.pop(), self.behind_lines.pop()))

    def redo(self):
        """Enter again the last line that was taken back, if no enter was done since."""
        if not self.taken_back:
            raise NothingToRedo("line")
        line, behind = self.taken_back.pop()
        self.lines_read.append(line)
        self.behind_lines.append(behind)

    @property
    def lines(self):
        """Return the row of the lines."""
        return tuple(self.lines_read)

    @property
    def levels(self):
        """Return the row of the sorts of the levels that are handed over, () if no state is."""
        state = self.behind_lines[-1].state
        if state is None:
            return ()
        return tuple([level[0] for level in state[0]])

    def __len__(self):
        """Return the number of lines."""
        return len(self.lines_read)

    def __bool__(self):
        """Return whether a state is handed over."""
        return self.behind_lines[-1].state is not None

    def __eq__(self, other):
        """Return whether another value is a reader with the same lines."""
        return isinstance(other, Reader) and self.lines_read == other.lines_read
