"""Routines that take lines, hand out marks and put lines back."""

from settlepages.checks import MOST_STEPS, need_number
from settlepages.errors import InvalidMarks, InvalidRoutine, InvalidStack
from settlepages.kinds import is_integer_within
from settlepages.pairturns import FOOT, REST, PairTurns, row_of_rest, told_on_stack

MOST_POSTS = 6
MOST_MARKS_OF_MOVE = 2
MOST_LINES_OF_MOVE = 3
HIGHEST_STACK = 60
MOST_MARKS_ASKED = 9


def are_few(value, most):
    """Return whether any value is a tuple of so many integers from 0 to 2 at most."""
    if not isinstance(value, tuple) or len(value) > most:
        return False
    return all([is_integer_within(one, 0, 2) for one in value])


def is_move(value, many):
    """Return whether any value is a move of a routine with so many posts."""
    if not isinstance(value, tuple) or len(value) != 3:
        return False
    if not are_few(value[0], MOST_MARKS_OF_MOVE) or not are_few(value[1], MOST_LINES_OF_MOVE):
        return False
    return is_integer_within(value[2], REST, many - 1)


def is_post(value, many):
    """Return whether any value is a post of a routine with so many posts."""
    return isinstance(value, tuple) and len(value) == FOOT + 1 and all([is_move(move, many) for move in value])


def is_routine(value):
    """Return whether any value is a routine."""
    if not isinstance(value, tuple) or not 1 <= len(value) <= MOST_POSTS:
        return False
    return all([is_post(post, len(value)) for post in value])


def need_routine(value):
    """Raise InvalidRoutine for what is no routine."""
    if not is_routine(value):
        raise InvalidRoutine("routine")


def need_stack(value):
    """Raise InvalidStack for what is no stack."""
    if not are_few(value, HIGHEST_STACK):
        raise InvalidStack("stack")


def need_marks(value):
    """Raise InvalidMarks for what is no row of at most 9 marks."""
    if not are_few(value, MOST_MARKS_ASKED):
        raise InvalidMarks("marks")


def turned(routine, stack, most):
    """Return what a run on a stack tells that rests within so many turns, or that more would be done."""
    need_routine(routine)
    need_stack(stack)
    need_number(most, 0, MOST_STEPS)
    post = 0
    left = list(reversed(stack))
    handed = []
    for turn in range(most):
        marks, lines, post = routine[post][left.pop() if left else FOOT]
        handed.extend(marks)
        left.extend(list(reversed(lines)))
        if post == REST:
            return ("rest", tuple(handed), tuple(reversed(left)), turn + 1)
    return ("more",)


def told_on(routine, stack):
    """Return what a run on a stack tells, or that it never rests."""
    need_routine(routine)
    need_stack(stack)
    return row_of_rest(told_on_stack(PairTurns(routine), stack))
