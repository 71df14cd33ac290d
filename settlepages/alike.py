"""Routines that hand out the same on all stacks."""

from settlepages.alikeshapes import without_common
from settlepages.kinds import are_ascending, is_integer
from settlepages.pairturns import FOOT, LINES, REST, least_stack_to, need_few_marks, turns_of_resting
from settlepages.routines import are_few, need_routine

MOST_MARKS_AHEAD = 1000


class PartingSeeker:
    """Seeks a stack on which two routines hand out unlike marks.

    A state is what both come to, each a post or REST, and the marks that the one, and the other, has handed out more.
    """

    def __init__(self, turns, other):
        self.turns = turns
        self.other = other

    def first_state(self):
        """Return the state of runs that did nothing yet."""
        return (0, 0, (), ())

    def wants(self, state):
        """Return whether both have handed out unlike marks where no lines are left."""
        one, other, ahead, behind = state
        return ahead + marks_by(self.turns, one, FOOT) != behind + marks_by(self.other, other, FOOT)

    def state_behind(self, state, line):
        """Return the state behind a line."""
        one, other, ahead, behind = state
        more, more_behind = without_common(
            ahead + marks_by(self.turns, one, line), behind + marks_by(self.other, other, line),
        )
        return (goal_by(self.turns, one, line), goal_by(self.other, other, line), more, more_behind)


def marks_by(turns, post, sort):
    """Return the marks that a pair hands out; what rests hands out none."""
    return () if post == REST else turns.outcome(post, sort).marks


def goal_by(turns, post, sort):
    """Return what a pair comes to; what rests stays so."""
    return REST if post == REST else turns.outcome(post, sort).goal


def seeker_of_both(routine, other):
    """Check two routines that must rest on all stacks, and return what seeks a stack that parts them."""
    need_routine(routine)
    need_routine(other)
    turns = turns_of_resting(routine)
    other_turns = turns_of_resting(other)
    need_few_marks(turns)
    need_few_marks(other_turns)
    return PartingSeeker(turns, other_turns)


def parting_stack(routine, other):
    """Return any stack on which two routines do not hand out the same, or None."""
    return least_stack_to(seeker_of_both(routine, other))


def hand_out_alike(routine, other):
    """Return whether two routines hand out the same on all stacks."""
    return parting_stack(routine, other) is None


def is_quadruple(posts, other_posts, value):
    """Return whether any value is a quadruple that can stand in a handed paper."""
    if not isinstance(value, tuple) or len(value) != 4 or not is_integer(value[0]) or not is_integer(value[1]):
        return False
    one, other, ahead, behind = value
    if (one != REST and one not in posts) or (other != REST and other not in other_posts):
        return False
    # Where the feet agree, what one has handed out more is at most what the other one hands out at its foot.
    if not are_few(ahead, MOST_MARKS_AHEAD) or not are_few(behind, MOST_MARKS_AHEAD):
        return False
    return ahead == () or behind == ()


def is_handed_paper(routine, other, value):
    """Return whether any value is a handed paper."""
    seeker = seeker_of_both(routine, other)
    posts, other_posts = seeker.turns.posts_led_to(), seeker.other.posts_led_to()
    if not isinstance(value, tuple) or not all([is_quadruple(posts, other_posts, state) for state in value]):
        return False
    told = {state[:2]: state for state in value}
    if not are_ascending(value) or len(told) != len(value) or seeker.first_state() not in value:
        return False
    if any([seeker.wants(state) for state in value]):
        return False
    nexts = [seeker.state_behind(state, line) for state in value for line in LINES]
    return all([behind[:2] in told and told[behind[:2]] == behind for behind in nexts])


def handed_paper(routine, other):
    """Return any handed paper, or None."""
    seeker = seeker_of_both(routine, other)
    states = [seeker.first_state()]
    at = 0
    while at < len(states):
        if seeker.wants(states[at]):
            return None
        for line in LINES:
            behind = seeker.state_behind(states[at], line)
            if behind not in states:
                states.append(behind)
        at += 1
    return tuple(sorted(states))
