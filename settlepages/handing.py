"""What routines that rest on all stacks hand out."""

from settlepages.kinds import are_ascending, is_integer
from settlepages.pairturns import FOOT, LINES, REST, least_stack_to, need_few_marks, turns_of_resting
from settlepages.routines import need_marks, need_routine


def checked_turns(routine):
    """Return the work of a routine that must rest on all stacks, and the walk of which has not too many marks."""
    turns = turns_of_resting(routine)
    need_few_marks(turns)
    return turns


class HandingSeeker:
    """Seeks a run that hands out marks; a state is a post, or REST, and how many of the marks were handed out."""

    def __init__(self, turns, marks):
        self.turns = turns
        self.marks = marks

    def first_state(self):
        """Return the state of a run that did nothing yet."""
        return (0, 0)

    def wants(self, state):
        """Return whether a run hands out all the marks of which no lines are left."""
        post, count = state
        if post == REST:
            return count == len(self.marks)
        return self.turns.outcome(post, FOOT).marks == self.marks[count:]

    def state_behind(self, state, line):
        """Return the state behind a line, or None if the run rests, or hands out others."""
        post, count = state
        if post == REST:
            return None
        found = self.turns.outcome(post, line)
        if self.marks[count:count + found.many] != found.marks:
            return None
        return (found.goal, count + found.many)


def walk_of(routine):
    """Return the walk of a routine."""
    need_routine(routine)
    turns = checked_turns(routine)
    rows = []
    for post, sort in turns.pairs_led_to():
        found = turns.outcome(post, sort)
        rows.append((post, sort, found.marks, found.goal))
    return tuple(rows)


def seeker_of(routine, marks):
    """Check a routine and marks, and return what seeks a run that hands these out."""
    need_routine(routine)
    need_marks(marks)
    return HandingSeeker(checked_turns(routine), marks)


def handing_stack(routine, marks):
    """Return the least stack on which a routine hands out just these marks, or None."""
    return least_stack_to(seeker_of(routine, marks))


def states_behind(seeker, state):
    """Return the list of the states behind all lines."""
    found = [seeker.state_behind(state, line) for line in LINES]
    return [behind for behind in found if behind is not None]


def is_state_of(posts, many, value):
    """Return whether any value is a pair of one of some posts, or REST, and of a count up to a greatest one."""
    if not isinstance(value, tuple) or len(value) != 2 or not all([is_integer(number) for number in value]):
        return False
    return (value[0] == REST or value[0] in posts) and 0 <= value[1] <= many


def is_none_paper(routine, marks, value):
    """Return whether any value is a none paper."""
    seeker = seeker_of(routine, marks)
    posts = seeker.turns.posts_led_to()
    if not isinstance(value, tuple) or not all([is_state_of(posts, len(marks), state) for state in value]):
        return False
    told = {state: True for state in value}
    if not are_ascending(value) or (0, 0) not in told or any([seeker.wants(state) for state in value]):
        return False
    return all([behind in told for state in value for behind in states_behind(seeker, state)])


def none_paper(routine, marks):
    """Return any none paper, or None."""
    seeker = seeker_of(routine, marks)
    if least_stack_to(seeker) is not None:
        return None
    states = [seeker.first_state()]
    at = 0
    while at < len(states):
        for behind in states_behind(seeker, states[at]):
            if behind not in states:
                states.append(behind)
        at += 1
    return tuple(sorted(states))
