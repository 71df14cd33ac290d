"""One routine behind another one: the marks that this hands out are the lines that it takes."""

from settlepages.handing import checked_turns
from settlepages.pairturns import FOOT, NEVER, REST, PairTurns, Told, row_of_rest, started_at, told_on_stack
from settlepages.pairturns import least_stack_to, turns_of_resting
from settlepages.routines import need_routine, need_stack


def told_behind(routine, other, stack):
    """Return what a run of a routine behind another one tells, with the turns of both."""
    need_routine(routine)
    need_routine(other)
    need_stack(stack)
    first = row_of_rest(told_on_stack(turns_of_resting(routine), stack))
    told = told_on_stack(PairTurns(other), first[1])
    return row_of_rest(Told(told.goal, told.turns + first[3], told.many, told.marks, told.left))


class BehindSeeker:
    """Seeks a stack on which the other one never rests; a state is what both come to, each a post, REST, or NEVER."""

    def __init__(self, turns, other):
        self.turns = turns
        self.other = other

    def first_state(self):
        """Return the state of runs that did nothing yet."""
        return (0, 0)

    def other_behind(self, goal, marks):
        """Return what the other one comes to behind marks."""
        if goal < 0:
            return goal
        return self.other.along(started_at(goal), marks, False).goal

    def wants(self, state):
        """Return whether the other one never rests where no lines are left."""
        post, goal = state
        if post != REST:
            goal = self.other_behind(goal, self.turns.outcome(post, FOOT).marks)
        return goal == NEVER or (goal >= 0 and self.other.outcome(goal, FOOT).goal == NEVER)

    def state_behind(self, state, line):
        """Return the state behind a line, or None if the first one rests already, or the other one does."""
        post, goal = state
        if post == REST or goal < 0:
            return None
        found = self.turns.outcome(post, line)
        return (found.goal, self.other_behind(goal, found.marks))


def endless_behind(routine, other):
    """Return the least stack on which the other one never rests behind a routine, or None."""
    need_routine(routine)
    need_routine(other)
    return least_stack_to(BehindSeeker(checked_turns(routine), PairTurns(other)))
