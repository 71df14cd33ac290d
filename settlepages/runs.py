"""Runs of texts, and what is told of them."""

from settlepages.checks import MOST_STEPS, need_number, need_run, need_answers, need_text
from settlepages.doing import run_on
from settlepages.runstate import Run, levels_told, rows_told, tests_told


def ran_unchecked(text, answers, most):
    """Return a run when it has ended, its end, and whether it hands over a state."""
    run = Run(text, answers, most)
    end, hands_over = run_on(run)
    return run, end, hands_over


def ran(text, answers, most):
    """Check the arguments of a run, and return what ran_unchecked does."""
    need_run(text, answers, most)
    return ran_unchecked(text, answers, most)


def run_of(text, answers, most):
    """Return the pair of the end of a run, and of how many steps were done."""
    run, end, _ = ran(text, answers, most)
    return (end, run.steps)


def events_of(text, answers, most):
    """Return the list of the events of a run."""
    return ran(text, answers, most)[0].events


def brought_of(text, answers, most):
    """Return the list, for each step done, of the step that its token bears."""
    return ran(text, answers, most)[0].brought


def read_of(text, answers, most):
    """Return the list of the triples (token, index, index behind) of all tokens that are cut from the text."""
    run = ran(text, answers, most)[0]
    return [(token, at, behind) for token, at, behind, _ in run.pieces]


def state_handed(run):
    """Return the state that a run hands over."""
    left = run.answers[run.asked:]
    return (levels_told(run), rows_told(run), tests_told(run), left, run.place(), run.stood_open)


def state_of(text, answers, most):
    """Return the state that a run hands over, or None."""
    run, _, hands_over = ran(text, answers, most)
    return state_handed(run) if hands_over else None


def lay_text(run, text):
    """Let a run that has come to where there is no token go on with another text, which begins a new line."""
    run.ahead += len(run.text)
    run.text = text
    run.at = 0
    run.standing = "new"


def run_cut(text, other, answers, most):
    """Return the end, and the steps, of a text, or of another one run with the state that it hands over."""
    need_text(text)
    need_text(other)
    need_answers(answers)
    need_number(most, 0, MOST_STEPS)
    run, end, hands_over = ran(text, answers, most)
    if hands_over:
        lay_text(run, other)
        end, _ = run_on(run)
    return (end, run.steps)


def parting_lines(text, answers, most):
    """Return any text that tells another end, run behind the state of a text, than behind the text itself, or None."""
    run, end, _ = ran(text, answers, most)
    if end == ("more",):
        return None
    # Figures go on with the number that stood open: so many make it too great, whatever it is, and whatever the run
    # does with it. Behind the state they are signs of their own, which end no run with the error "number".
    if run.stood_open:
        return "9999999999\n"
    # One line more gives the token that was wanted, so the text cannot end at the same index.
    if end[:2] == ("error", "ends"):
        return "\n"
    return None
