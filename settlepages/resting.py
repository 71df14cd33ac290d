"""Whether routines come to rest on all stacks, and papers that show it."""

from settlepages.kinds import are_ascending, is_integer
from settlepages.pairturns import FOOT, NEVER, REST, SORTS, PairTurns, least_stack_to
from settlepages.routines import need_routine


def quadruple_told(turns, post, sort):
    """Return the quadruple of a pair, with a word where it comes to no post."""
    found = turns.outcome(post, sort)
    if found.goal == NEVER:
        return (post, sort, "never", 0)
    return (post, sort, "rest" if found.goal == REST else found.goal, found.turns)


def pairs_told(routine):
    """Return the ascending list of the quadruples (post, sort, what it comes to, turns) of all pairs."""
    need_routine(routine)
    turns = PairTurns(routine)
    return [quadruple_told(turns, post, sort) for post in range(len(routine)) for sort in SORTS]


class NeverSeeker:
    """Seeks a run that never rests; a state is a post, or NEVER."""

    def __init__(self, turns):
        self.turns = turns

    def first_state(self):
        """Return the state of a run that did nothing yet."""
        return 0

    def wants(self, state):
        """Return whether a run never rests of which no lines are left."""
        return state == NEVER or self.turns.outcome(state, FOOT).goal == NEVER

    def state_behind(self, state, line):
        """Return the state behind a line, or None if the run rests."""
        goal = self.turns.outcome(state, line).goal
        return None if goal == REST else goal


def endless_stack(routine):
    """Return the least stack on which a routine never rests, or None."""
    need_routine(routine)
    return least_stack_to(NeverSeeker(PairTurns(routine)))


def pairs_asked(turns):
    """Return the list of all pairs of the posts to which stacks lead, and of all that these need."""
    pairs = turns.pairs_led_to()
    seen = {pair: True for pair in pairs}
    at = 0
    while at < len(pairs):
        post, sort = pairs[at]
        for pair in turns.needs(post, sort):
            if pair not in seen:
                seen[pair] = True
                pairs.append(pair)
        at += 1
    return pairs


def row_of_paper(turns, pair):
    """Return the quadruple of a pair that comes to a post, or to rest."""
    post, sort = pair
    found = turns.outcome(post, sort)
    return (post, sort, found.goal, found.turns)


def is_true_row(turns, value):
    """Return whether any value is the quadruple of a pair of a routine."""
    if not isinstance(value, tuple) or len(value) != 4 or not all([is_integer(number) for number in value]):
        return False
    post, sort, goal, _ = value
    if not 0 <= post < len(turns.routine) or not 0 <= sort <= FOOT or goal == NEVER:
        return False
    return value == row_of_paper(turns, (post, sort))


def is_rest_paper(routine, value):
    """Return whether any value is a rest paper."""
    need_routine(routine)
    turns = PairTurns(routine)
    if not isinstance(value, tuple) or not all([is_true_row(turns, row) for row in value]):
        return False
    told = {row[:2]: True for row in value}
    return are_ascending(value) and all([pair in told for pair in pairs_asked(turns)])


def rest_paper(routine):
    """Return any rest paper, or None."""
    need_routine(routine)
    turns = PairTurns(routine)
    if not turns.does_rest():
        return None
    return tuple([row_of_paper(turns, pair) for pair in sorted(pairs_asked(turns))])
