"""A slow way to run routines: turn by turn, on all short stacks."""

import functools
import itertools

MOST_TURNS = 3000


def run_slowly(routine, stack, most=MOST_TURNS):
    """The marks, the lines left and the turns of a run that rests, or None if it does not within so many turns."""
    lines, post, marks = list(reversed(stack)), 0, []
    for turn in range(most):
        told, put, post = routine[post][lines.pop() if lines else 3]
        marks += told
        lines += reversed(put)
        if post == -1:
            return tuple(marks), tuple(reversed(lines)), turn + 1
    return None


@functools.lru_cache(maxsize=None)
def pair_slowly(routine, post, sort, most=MOST_TURNS):
    """What a pair comes to, its turns and its marks; "never" with 0 turns."""
    lines, turn, marks = [] if sort == 3 else [sort], 0, []
    while turn < most:
        if sort != 3 and not lines and turn > 0:
            return post, turn, tuple(marks)
        told, put, post = routine[post][lines.pop() if lines else 3]
        marks += told
        lines += reversed(put)
        turn += 1
        if post == -1:
            return "rest", turn, tuple(marks)
    return "never", 0, ()


def needs_slowly(routine, post, sort):
    """The pairs that a pair needs, as far as they are come to."""
    _, put, post = routine[post][sort]
    needed = []
    for line in [*put, 3] if sort == 3 else put:
        if post not in range(len(routine)):
            break
        needed.append((post, line))
        post = pair_slowly(routine, post, line)[0]
    return needed


def stacks(longest):
    """All stacks up to a length, in the order in which the least one is told."""
    return [stack for length in range(longest + 1) for stack in itertools.product((0, 1, 2), repeat=length)]


def posts_slowly(routine):
    """The posts to which stacks lead."""
    posts = {0}
    for _ in range(len(routine)):
        for post in list(posts):
            posts |= {pair_slowly(routine, post, line)[0] for line in range(3)} & set(range(len(routine)))
    return posts


def random_move(source, many, rests):
    marks = tuple(source.randint(0, 2) for _ in range(source.choice((0, 0, 1, 1, 2))))
    lines = tuple(source.randint(0, 2) for _ in range(source.choice((0, 0, 0, 0, 1, 1, 2, 3))))
    return (marks, lines, -1 if source.random() < rests else source.randrange(many))


def random_routine(source, most=3):
    many = source.randint(1, most)
    return tuple(
        tuple(random_move(source, many, 0.15) for _ in range(3)) + (random_move(source, many, 0.7),) for _ in range(many)
    )


def does_rest_slowly(routine):
    return all(pair_slowly(routine, post, sort)[0] != "never" for post in posts_slowly(routine) for sort in range(4))


def resting_routines(source, count, most=3):
    """Random routines that rest on all stacks."""
    found = []
    while len(found) < count:
        routine = random_routine(source, most)
        if does_rest_slowly(routine):
            found.append(routine)
    return found
