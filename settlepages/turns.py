"""Turns of runs, and all moments that a text can come to."""

from settlepages.checks import need_text
from settlepages.doing import take_turn
from settlepages.errors import TooMany
from settlepages.meanings import level_of
from settlepages.runstate import Fault, OutOfSteps, Run, Stopped, levels_told, tests_told

MOST_SIGNS_READ = 80
MOST_MOMENTS = 200
MOST_STEPS_IN_TURN = 60
MOST_ANSWERS_IN_TURN = 4
FIRST_MOMENT = (0, "new", (), (("text", (), ()),), ())
NO_MOMENT = -1


class Turn:
    """A turn by some answers: the pieces that it cuts, whether it was to cut and none came, the moment behind it."""

    def __init__(self, answers, pieces, exhausted, target):
        self.answers = answers
        self.pieces = pieces
        self.exhausted = exhausted
        self.target = target


class Paths:
    """All moments of a text, as its list says, and for each the list of its turns, by answers in their order."""

    def __init__(self, text, moments, turns):
        self.text = text
        self.moments = moments
        self.turns = turns

    def kinds_at(self, number):
        """Return the dict of the kinds in force at a moment; they stay the same for all that its turns cut."""
        return level_of(self.moments[number][3][-1]).kinds


def need_short_text(text):
    """Raise TooMany for a text that is too long to be read ahead."""
    if len(text) > MOST_SIGNS_READ:
        raise TooMany(MOST_SIGNS_READ)


def moment_of(run):
    """Return the moment at which a run is."""
    waiting = tuple([token for token, _ in reversed(run.waiting)])
    return (run.at, run.standing, waiting, levels_told(run), tests_told(run))


def run_from(text, moment, answers):
    """Return a run of a text that is at a moment."""
    index, standing, waiting, levels, tests = moment
    run = Run(text, answers, MOST_STEPS_IN_TURN)
    run.at = index
    run.standing = standing
    run.put_ahead(waiting, 0)
    run.level_row = [level_of(level) for level in levels]
    run.rows = [[]] + [[] for level in levels if level[0] == "box"]
    run.tests = [[True, has_else] for has_else in tests]
    return run


def goes_on(run):
    """Take a turn, and return whether the run goes on behind it."""
    try:
        return take_turn(run)
    except Fault:
        return False
    except Stopped:
        return False
    except OutOfSteps:
        raise TooMany(MOST_MOMENTS) from None


def turns_from(text, moment):
    """Return the list of the pairs (turn, moment behind it or None) from a moment, by answers in their order."""
    found = []
    asked_for = [()]
    while asked_for:
        begun = asked_for.pop()
        run = run_from(text, moment, begun)
        behind = moment_of(run) if goes_on(run) else None
        if run.asked > MOST_ANSWERS_IN_TURN:
            raise TooMany(MOST_MOMENTS)
        # An answer that is not there counts as False, so the rest of the answers was False.
        answers = begun + (False,) * (run.asked - len(begun))
        found.append((Turn(answers, run.pieces, run.exhausted, NO_MOMENT), behind))
        for at in range(len(begun), len(answers)):
            asked_for.append(answers[:at] + (True,))
    return found


def paths_of(text):
    """Return all moments of a text, in the order of their list, with their turns."""
    moments = [FIRST_MOMENT]
    numbers = {repr(FIRST_MOMENT): 0}
    turns = []
    while len(turns) < len(moments):
        found = turns_from(text, moments[len(turns)])
        for turn, behind in found:
            if behind is not None:
                name = repr(behind)
                if name not in numbers:
                    numbers[name] = len(moments)
                    moments.append(behind)
                turn.target = numbers[name]
        if len(moments) > MOST_MOMENTS:
            raise TooMany(MOST_MOMENTS)
        turns.append([turn for turn, _ in found])
    return Paths(text, moments, turns)


def checked_paths(text):
    """Check a text, and return its paths."""
    need_text(text)
    need_short_text(text)
    return paths_of(text)


def last_piece(text):
    """Return the piece that tells that a run was to cut a token, and none came any more."""
    return (None, len(text), len(text), "new")


def pieces_cut(paths, turn):
    """Return the list of the pieces of a turn, also where none came any more."""
    return turn.pieces + [last_piece(paths.text)] if turn.exhausted else turn.pieces
