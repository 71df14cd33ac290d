"""What pairs of posts and sorts of routines come to, and runs of routines along rows of lines."""

from settlepages.errors import NeverRests, TooMany

FOOT = 3
LINES = (0, 1, 2)
SORTS = (0, 1, 2, 3)
REST = -1
NEVER = -2
MOST_MARKS_TOLD = 1000


class Told:
    """What lines come to: a post, REST or NEVER; turns; the number of the marks, and these if they are not too many.

    At REST it tells the lines that are left, too.
    """

    def __init__(self, goal, turns, many, marks, left):
        self.goal = goal
        self.turns = turns
        self.many = many
        self.marks = marks
        self.left = left


def started_at(post):
    """Return what a run comes to that stands at a post, and did nothing yet."""
    return Told(post, 0, 0, (), ())


def behind_told(one, other):
    """Return what comes of two rows of lines, one behind the other."""
    many = one.many + other.many
    marks = one.marks + other.marks if many <= MOST_MARKS_TOLD else None
    return Told(other.goal, one.turns + other.turns, many, marks, other.left)


class PairTurns:
    """What the pairs of a routine come to; each is worked out at most once."""

    def __init__(self, routine):
        self.routine = routine
        self.done = {}
        self.started = {}

    def outcome(self, post, sort):
        """Return what a pair comes to; one that is started already needs itself, and never rests."""
        pair = (post, sort)
        if pair in self.done:
            return self.done[pair]
        if pair in self.started:
            return Told(NEVER, 0, 0, (), ())
        self.started[pair] = True
        self.done[pair] = self.worked(post, sort)
        return self.done[pair]

    def worked(self, post, sort):
        """Work a pair out by its move."""
        marks, lines, goal = self.routine[post][sort]
        begun = Told(goal, 1, len(marks), marks, lines)
        if goal == REST:
            return begun
        return self.along(begun, lines, sort == FOOT)

    def along(self, begun, lines, has_foot):
        """Return what comes of what is told behind lines, and at last behind the foot."""
        found = begun
        for at, line in enumerate(lines):
            found = behind_told(found, self.outcome(found.goal, line))
            if found.goal == REST:
                return Told(REST, found.turns, found.many, found.marks, found.left + lines[at + 1:])
            if found.goal == NEVER:
                return found
        return behind_told(found, self.outcome(found.goal, FOOT)) if has_foot else found

    def needs(self, post, sort):
        """Return the list of the pairs that a pair needs, in turn."""
        _, lines, goal = self.routine[post][sort]
        sorts = lines + (FOOT,) if sort == FOOT else lines
        needed = []
        for needed_sort in sorts:
            if goal < 0:
                return needed
            needed.append((goal, needed_sort))
            goal = self.outcome(goal, needed_sort).goal
        return needed

    def posts_led_to(self):
        """Return the list of the posts to which stacks lead."""
        posts = [0]
        at = 0
        while at < len(posts):
            for line in LINES:
                goal = self.outcome(posts[at], line).goal
                if goal >= 0 and goal not in posts:
                    posts.append(goal)
            at += 1
        return posts

    def pairs_led_to(self):
        """Return the ascending list of all pairs of the posts to which stacks lead."""
        return [(post, sort) for post in sorted(self.posts_led_to()) for sort in SORTS]

    def does_rest(self):
        """Return whether the routine rests on all stacks."""
        return all([self.outcome(post, sort).goal != NEVER for post, sort in self.pairs_led_to()])


def told_on_stack(turns, stack):
    """Return what a run on a stack comes to, by the work of its pairs."""
    return turns.along(started_at(0), stack, True)


def turns_of_resting(routine):
    """Return the work of a routine that must rest on all stacks."""
    turns = PairTurns(routine)
    if not turns.does_rest():
        raise NeverRests("routine")
    return turns


def need_few_marks(turns):
    """Raise TooMany if a pair of the walk of a routine hands out too many marks."""
    if any([turns.outcome(post, sort).many > MOST_MARKS_TOLD for post, sort in turns.pairs_led_to()]):
        raise TooMany(MOST_MARKS_TOLD)


def row_of_rest(told):
    """Return the row that is told of a run: that it never rests, or how it rests, if its marks are not too many."""
    if told.goal == NEVER:
        return ("never",)
    if told.many > MOST_MARKS_TOLD:
        raise TooMany(MOST_MARKS_TOLD)
    return ("rest", told.marks, told.left, told.turns)


def least_stack_to(seeker):
    """Return the least stack that leads from the first state of a seeker to one that it wants, or None.

    States are looked through in the order of their least stacks.
    """
    queue = [(seeker.first_state(), ())]
    seen = {queue[0][0]: True}
    at = 0
    while at < len(queue):
        state, stack = queue[at]
        at += 1
        if seeker.wants(state):
            return stack
        for line in LINES:
            behind = seeker.state_behind(state, line)
            if behind is not None and behind not in seen:
                seen[behind] = True
                queue.append((behind, stack + (line,)))
    return None
