"""Routines: runs, resting, handing out, one behind the other, alike; against all short stacks, turn by turn."""

import random
import unittest

from settlepages.alike import hand_out_alike, handed_paper, is_handed_paper, parting_stack
from settlepages.behind import endless_behind, told_behind
from settlepages.errors import NeverRests, TooMany
from settlepages.handing import handing_stack, is_none_paper, none_paper, walk_of
from settlepages.resting import endless_stack, is_rest_paper, pairs_told, rest_paper
from settlepages.routines import is_routine, told_on, turned
from tests.odd import ODD, raised
from tests.turns import (
    does_rest_slowly, needs_slowly, pair_slowly, posts_slowly, random_routine, resting_routines, run_slowly, stacks,
)

STAY, REST = ((), (), 0), ((), (), -1)
QUIET = ((STAY, STAY, STAY, REST),)
SPINNING = ((STAY, STAY, STAY, STAY),)
MARKING = ((((0,), (), 0), STAY, ((1,), (), -1), REST),)
# A line 2 hands out 25 marks, a line 1 8, a line 0 2, the foot 1.
MANY = ((((0, 0), (), 0), ((0, 0), (0, 0, 0), 0), ((0,), (1, 1, 1), 0), ((1,), (), -1)),)
THOUSAND = (2,) * 39 + (1, 1, 1)
# The line 1 of the first post comes to 20506 turns.
GREAT = (
    (((), (), 0), ((), (0, 0, 0), 3), ((), (), 5), REST),
    (((0,), (1, 1, 1), 4), ((), (1, 2, 1), 3), ((0,), (1, 2, 2), 2), REST),
    (((), (2, 2, 1), 1), ((), (2, 2, 2), 5), ((0,), (2, 0, 0), 3), REST),
    (((), (0, 0, 0), 4), ((), (0, 2, 1), 2), ((0, 1), (2, 0, 0), 4), REST),
    (((), (0, 0, 0), 5), ((0, 1), (1, 1, 1), 1), ((0, 1), (1, 0, 0), 4), REST),
    (((), (2, 0, 2), 2), ((), (), 1), ((), (0, 0, 2), 0), REST),
)


def with_marks(post, sort, marks):
    """The routine of great numbers with other marks of one move."""
    moves = list(GREAT[post])
    moves[sort] = (marks, *moves[sort][1:])
    return GREAT[:post] + (tuple(moves),) + GREAT[post + 1:]


def most_marks(routine):
    return max(len(pair_slowly(routine, post, sort, 30000)[2]) for post in range(6) for sort in range(4))


class Runs(unittest.TestCase):
    def test_runs(self):
        source = random.Random(33)
        counts = {}
        for _ in range(250):
            routine = random_routine(source, 4)
            self.assertIs(is_routine(routine), True)
            for stack in stacks(3) + [tuple(source.randint(0, 2) for _ in range(source.choice((8, 20, 60)))) for _ in range(5)]:
                found = run_slowly(routine, stack)
                if found is None:
                    self.assertEqual(told_on(routine, stack), ("never",), (routine, stack))
                    self.assertEqual(turned(routine, stack, source.randint(0, 2000)), ("more",))
                else:
                    marks, left, turns = found
                    if len(marks) > 1000:
                        self.assertIs(raised(told_on, (routine, stack)), TooMany)
                    else:
                        self.assertEqual(told_on(routine, stack), ("rest", marks, left, turns), (routine, stack))
                    if turns <= 2000:
                        self.assertEqual(turned(routine, stack, turns), ("rest", marks, left, turns))
                        self.assertEqual(turned(routine, stack, 2000), ("rest", marks, left, turns))
                        self.assertEqual(turned(routine, stack, turns - 1), ("more",))
                counts[found is None] = counts.get(found is None, 0) + 1
        self.assertGreater(min(counts.values()), 1000, counts)

    def test_edges_of_runs(self):
        self.assertEqual(turned(QUIET, (), 0), ("more",))
        self.assertEqual(turned(QUIET, (), 1), ("rest", (), (), 1))
        self.assertEqual(turned(QUIET, (0, 1, 2) * 20, 60), ("more",))
        self.assertEqual(turned(QUIET, (0, 1, 2) * 20, 61), ("rest", (), (), 61))
        self.assertEqual(told_on(SPINNING, (2,) * 60), ("never",))
        self.assertEqual(turned(SPINNING, (), 2000), ("more",))
        # A move that rests puts its lines back, ahead of those that are left.
        resting = ((STAY, ((1,), (2, 1, 0), -1), ((), (1, 0), 0), ((2, 2), (0,), -1)),)
        self.assertEqual(told_on(resting, (0, 1, 2, 2)), ("rest", (1,), (2, 1, 0, 2, 2), 2))
        self.assertEqual(told_on(resting, (2, 0)), ("rest", (1,), (2, 1, 0, 0, 0), 2))
        self.assertEqual(told_on(resting, (0,)), ("rest", (2, 2), (0,), 2))
        self.assertEqual(told_on(resting, ()), ("rest", (2, 2), (0,), 1))
        # The foot may put lines back, and go on.
        walking = ((STAY, STAY, STAY, ((0,), (1, 2), 1)), (((), (), -1), ((1,), (), 1), ((2,), (), 1), ((), (0, 1), 1)))
        self.assertEqual(told_on(walking, ()), ("rest", (0, 1, 2), (1,), 5))

    def test_many_marks(self):
        self.assertEqual(len(told_on(MANY, THOUSAND)[1]), 1000)
        for stack in (THOUSAND + (0,), THOUSAND + (2,) * 18):
            with self.assertRaises(TooMany) as caught:
                told_on(MANY, stack)
            self.assertEqual(caught.exception.limit, 1000)
        # turned has no such bound, and one that never rests may hand out what it will.
        self.assertEqual(len(turned(MANY, THOUSAND + (0,), 2000)[1]), 1002)
        self.assertEqual(told_on((MANY[0][:3] + (((0, 0), (), 0),),), (2,) * 60), ("never",))

    def test_great_numbers_of_turns(self):
        told = {row[:2]: row[2:] for row in pairs_told(GREAT)}
        self.assertEqual(told[(0, 1)], (5, 20506))
        for (post, sort), found in told.items():
            self.assertEqual(pair_slowly(GREAT, post, sort, 30000)[:2], found)
        # The foot puts three such lines back, too.
        silent = tuple(tuple(((), lines, goal) for _, lines, goal in post) for post in GREAT)
        footed = ((*silent[0][:3], ((), (1, 1, 1), 0)), *silent[1:])
        told, found = told_on(footed, (1, 0, 2) * 20), run_slowly(footed, (1, 0, 2) * 20, 10 ** 6)
        self.assertEqual(told, ("rest", *found))
        self.assertGreater(told[3], 3 * 10 ** 4)
        self.assertEqual(turned(footed, (1,), 2000), ("more",))


class Resting(unittest.TestCase):
    def test_pairs_and_papers(self):
        source = random.Random(35)
        counts = {}
        for _ in range(400):
            routine = random_routine(source, 4)
            told = pairs_told(routine)
            expected = [(post, sort, *pair_slowly(routine, post, sort)[:2]) for post in range(len(routine)) for sort in range(4)]
            self.assertEqual(told, expected, routine)
            never = [stack for stack in stacks(4) if run_slowly(routine, stack) is None]
            endless = endless_stack(routine)
            if never:
                self.assertEqual(endless, never[0], routine)
            else:
                self.assertTrue(endless is None or len(endless) > 4)
            rests = does_rest_slowly(routine)
            self.assertEqual(endless is None, rests, routine)
            counts[rests] = counts.get(rests, 0) + 1
            self.check_paper(source, routine, rests, expected)
        self.assertGreater(min(counts.values()), 60, counts)

    def required(self, routine):
        pairs = {(post, sort) for post in posts_slowly(routine) for sort in range(4)}
        while True:
            more = {needed for pair in pairs for needed in needs_slowly(routine, *pair)} | pairs
            if more == pairs:
                return pairs
            pairs = more

    def check_paper(self, source, routine, rests, told):
        rows = [(post, sort, -1 if goal == "rest" else goal, turns) for post, sort, goal, turns in told if goal != "never"]
        self.assertIs(is_rest_paper(routine, tuple(rows)), rests, routine)
        paper = rest_paper(routine)
        self.assertEqual(paper is None, not rests)
        if not rests:
            return
        self.assertIs(is_rest_paper(routine, paper), True, (routine, paper))
        self.assertLessEqual(set(paper), set(rows))
        self.assertIs(is_rest_paper(routine, list(paper)), False)
        self.assertIs(is_rest_paper(routine, paper + paper[-1:]), False)
        if len(paper) > 1:
            self.assertIs(is_rest_paper(routine, paper[::-1]), False)
        required = self.required(routine)
        for at, row in enumerate(rows):
            without = tuple(rows[:at] + rows[at + 1:])
            self.assertIs(is_rest_paper(routine, without), row[:2] not in required, (routine, row))
            for wrong in ((*row[:3], row[3] + 1), (*row[:3], 0), (*row[:2], (row[2] + 2) % 6 - 1, row[3]), list(row), row[:3], row + (0,), (*row[:3], None)):
                if wrong != row:
                    changed = tuple(rows[:at]) + (wrong,) + tuple(rows[at + 1:])
                    self.assertIs(is_rest_paper(routine, changed), False, changed)

    def test_edges_of_papers(self):
        paper = tuple((0, sort, 0 if sort < 3 else -1, 1) for sort in range(4))
        self.assertIs(is_rest_paper(QUIET, paper), True)
        for value in (
            ((False, 0, 0, 1),) + paper[1:], ((0, False, 0, 1),) + paper[1:], ((0, 0, False, 1),) + paper[1:], ((0, 0, 0, True),) + paper[1:], paper[1:],
            paper + ((0, 4, 0, 1),), paper + ((1, 0, 0, 1),), ((-1, 0, 0, 1),) + paper, (), ((0, -1, 0, 1),) + paper,
            paper[:3] + ((0, 3, "rest", 1),),
        ):
            self.assertIs(is_rest_paper(QUIET, value), False, value)
        for value in ODD:
            self.assertIs(is_rest_paper(QUIET, value), False, value)
        # A pair that never rests is in no paper, and need not be, if no stack leads to it.
        spare = (QUIET[0], (((), (), 1),) * 4)
        self.assertIs(is_rest_paper(spare, paper), True)
        self.assertIs(is_rest_paper(spare, paper + ((1, 0, 1, 1),)), True)
        for row in [(1, 3, goal, turns) for goal in (-2, -1, 0, 1, "never") for turns in range(4)]:
            self.assertIs(is_rest_paper(spare, paper + (row,)), False, row)
        # A pair that needs itself at once, one by another one, and one that is never come to.
        for routine, stack in (
            (((((), (0,), 0), STAY, STAY, REST),), (0,)), (((((), (1,), 0), ((), (2, 0), 0), STAY, REST),), (0,)), (SPINNING, ()),
            (((STAY, ((), (), 1), STAY, REST), (STAY, ((), (1,), 1), ((), (), 0), STAY)), (1, 1)), (((STAY, STAY, STAY, ((), (0,), 1)), (((), (0,), 1), STAY, STAY, REST)), ()),
            (((STAY, STAY, STAY, REST), (((), (), 1),) * 4), None), (((STAY, STAY, REST, REST), (((), (0,), 1),) * 4), None),
            (((((), (), 1), STAY, STAY, REST), (((), (), 2), ((), (), 1), ((), (), 1), REST), (((), (), 2),) * 3 + (((), (), 2),)), (0, 0)),
        ):
            self.assertIs(is_routine(routine), True)
            self.assertEqual(endless_stack(routine), stack, routine)
            self.assertEqual(rest_paper(routine) is None, stack is not None)
        # What a pair never comes to need not rest: behind a line that rests nothing is asked.
        routine = ((((), (1, 2), 0), REST, ((), (2,), 0), REST),)
        self.assertEqual(endless_stack(routine), (2,))
        routine = ((((), (1, 2), 1), STAY, STAY, REST), (STAY, ((), (), -1), ((), (2,), 1), REST))
        self.assertIsNone(endless_stack(routine))
        self.assertEqual([row[:2] for row in rest_paper(routine)], [(0, 0), (0, 1), (0, 2), (0, 3), (1, 1)])


class Handing(unittest.TestCase):
    def test_walks_and_papers(self):
        source = random.Random(36)
        shown = {}
        for routine in resting_routines(source, 160, 4):
            posts = sorted(posts_slowly(routine))
            told = [(post, sort, *pair_slowly(routine, post, sort)) for post in posts for sort in range(4)]
            if max(len(marks) for _, _, _, _, marks in told) > 1000:
                self.assertIs(raised(walk_of, (routine,)), TooMany)
                continue
            self.assertEqual(walk_of(routine), tuple((post, sort, marks, -1 if goal == "rest" else goal) for post, sort, goal, _, marks in told))
            first = {}
            for stack in stacks(5):
                first.setdefault(run_slowly(routine, stack)[0], stack)
            asked = source.sample(sorted(first), min(6, len(first))) + [tuple(source.randint(0, 2) for _ in range(source.randint(0, 4))) for _ in range(6)]
            for marks in asked:
                if len(marks) <= 9:
                    shown[self.check_marks(source, routine, marks, first)] = True
        self.assertEqual(sorted(shown), [False, True])

    def check_marks(self, source, routine, marks, first):
        stack, paper = handing_stack(routine, marks), none_paper(routine, marks)
        if marks in first:
            self.assertEqual(stack, first[marks], (routine, marks))
        self.assertTrue(stack is None or marks in first or len(stack) > 5)
        self.assertEqual(paper is None, stack is not None)
        if stack is not None:
            self.assertEqual(run_slowly(routine, stack)[0], marks)
            self.assertLessEqual(len(stack), 60)
            every = tuple((post, count) for post in (-1, *sorted(posts_slowly(routine))) for count in range(len(marks) + 1))
            self.assertIs(is_none_paper(routine, marks, every), False)
            return True
        self.assertIs(is_none_paper(routine, marks, paper), True, (routine, marks, paper))
        for at in range(len(paper)):
            self.assertIs(is_none_paper(routine, marks, paper[:at] + paper[at + 1:]), False)
        for wrong in (list(paper), paper[::-1] + paper[:1], paper + paper[-1:], paper + ((0, len(marks) + 1),), ((-2, 0),) + paper, ((-1, len(marks)),) + paper,
                      paper + ((9, 0),), ((-1, -1),) + paper):
            self.assertIs(is_none_paper(routine, marks, wrong), False, wrong)
        if len(marks) > 0:
            further = tuple(sorted({(-1, source.randrange(len(marks))), *paper}))
            self.assertIs(is_none_paper(routine, marks, further), True)
        self.check_further(routine, marks, paper)
        return False

    def check_further(self, routine, marks, paper):
        """Further pairs are let just if what they lead to is there, too, and no foot tells the rest."""
        posts = sorted(posts_slowly(routine))
        for post in posts:
            for count in range(len(marks) + 1):
                value = tuple(sorted({(post, count), *paper}))
                fits = pair_slowly(routine, post, 3)[2] != marks[count:]
                for sort in range(3):
                    goal, _, told = pair_slowly(routine, post, sort)
                    goal = -1 if goal == "rest" else goal
                    if marks[count:count + len(told)] == told and (goal, count + len(told)) not in value:
                        fits = False
                self.assertIs(is_none_paper(routine, marks, value), fits or (post, count) in paper, (routine, marks, value))

    def test_edges_of_handing(self):
        self.assertEqual(handing_stack(QUIET, ()), ())
        self.assertIsNone(handing_stack(QUIET, (0,)))
        self.assertEqual(none_paper(QUIET, (0,)), ((0, 0),))
        self.assertIsNone(none_paper(QUIET, ()))
        one = ((((0,), (), 0), ((0, 1), (), 0), ((1,), (), -1), REST),)
        self.assertEqual(handing_stack(one, (0,) * 9), (0,) * 9)
        self.assertEqual(handing_stack(one, (0, 1, 0)), (1, 0))
        self.assertEqual(handing_stack(one, (0, 1)), (1,))
        self.assertEqual(handing_stack(one, (1,)), (2,))
        self.assertIsNone(handing_stack(one, (1, 0)))
        self.assertEqual(none_paper(one, (1, 0)), ((-1, 1), (0, 0)))
        self.assertIs(is_none_paper(one, (1, 0), ((-1, 0), (-1, 1), (0, 0), (0, 1))), False)
        self.assertIs(is_none_paper(one, (1, 0), ((-1, 0), (-1, 1), (0, 0))), True)
        for value in ((), ((0, 0),), [(0, 0)], ((False, 0),), ((-1, 1), (0, False)), ((-1, True), (0, 0)), ((-1, 1), [0, 0]), ((-1, 1), (0, 0, 0))):
            self.assertIs(is_none_paper(one, (1, 0), value), False, value)
        for value in ODD:
            self.assertIs(is_none_paper(one, (1, 0), value), False, value)
        # Long ways: six posts in turn, each line handing out a mark only behind five others.
        turn = tuple((((0,) if at == 5 else (), (), (at + 1) % 6), REST, REST, REST) for at in range(6))
        self.assertEqual(handing_stack(turn, (0,) * 9), (0,) * 54)
        last = turn[:5] + (turn[5][:1] + (((1,), (), -1), REST, REST),)
        self.assertEqual(handing_stack(last, (0,) * 8 + (1,)), (0,) * 53 + (1,))

    def test_the_least_stack_in_order(self):
        routine = ((((1,), (), 1), ((1, 1), (), 1), ((), (), 1), REST), (((1, 1), (), 1), ((), (), 1), ((1, 1), (0,), 0), REST))
        told = [stack for stack in stacks(4) if run_slowly(routine, stack)[0] == (1, 1, 1, 1)]
        self.assertEqual(handing_stack(routine, (1, 1, 1, 1)), told[0])
        self.assertGreater(len(told), 3)


class Behind(unittest.TestCase):
    def test_one_behind_the_other(self):
        source = random.Random(37)
        counts = {}
        for routine in resting_routines(source, 150, 3):
            other = random_routine(source, 4)
            never = []
            for stack in stacks(4):
                marks, _, turns = run_slowly(routine, stack)
                found = run_slowly(other, marks)
                if found is None:
                    never.append(stack)
                    expected = ("never",)
                else:
                    expected = ("rest", found[0], found[1], turns + found[2])
                if len(marks) > 1000 or (found is not None and len(found[0]) > 1000):
                    self.assertIs(raised(told_behind, (routine, other, stack)), TooMany)
                else:
                    self.assertEqual(told_behind(routine, other, stack), expected, (routine, other, stack))
            told = endless_behind(routine, other)
            counts[told is None] = counts.get(told is None, 0) + 1
            if never:
                self.assertEqual(told, never[0], (routine, other))
            else:
                self.assertTrue(told is None or len(told) > 4, (routine, other))
            if told is not None:
                self.assertIsNone(run_slowly(other, run_slowly(routine, told)[0]))
        self.assertGreater(min(counts.values()), 40, counts)

    def test_edges_of_both(self):
        other = ((STAY, ((), (1,), 0), STAY, REST),)
        # The other one need not rest on all stacks, but for the marks that the first one hands out.
        self.assertIsNone(endless_behind(QUIET, other))
        self.assertEqual(told_behind(QUIET, other, (1,)), ("rest", (), (), 3))
        self.assertEqual(endless_behind(QUIET, SPINNING), ())
        self.assertEqual(endless_behind(MARKING, other), (2,))
        self.assertEqual(told_behind(MARKING, other, (0, 2)), ("never",))
        self.assertEqual(told_behind(MARKING, other, (0, 0, 1)), ("rest", (), (), 7))
        # Marks of the foot, and those of a line that rests, are taken, too; lines of the other one are left.
        left = ((((2,), (), -1), STAY, STAY, REST),)
        footed = ((STAY, STAY, ((0, 1), (), -1), ((0, 2), (), -1)),)
        self.assertEqual(told_behind(footed, left, ()), ("rest", (2,), (2,), 2))
        self.assertEqual(told_behind(footed, left, (2, 1)), ("rest", (2,), (1,), 2))
        # Nothing is asked of the other one behind what rests.
        self.assertIsNone(endless_behind(footed, ((REST, ((), (1,), 0), ((), (2,), 0), STAY),)))
        self.assertEqual(endless_behind(footed, ((STAY, ((), (1,), 0), ((), (2,), 0), REST),)), ())

    def test_many_marks_of_either(self):
        turns = run_slowly(MANY, THOUSAND)[2]
        self.assertEqual(told_behind(MANY, QUIET, THOUSAND), ("rest", (), (), turns + 1001))
        for other in (QUIET, SPINNING):
            self.assertIs(raised(told_behind, (MANY, other, THOUSAND + (0,))), TooMany)
        self.assertEqual(told_behind(MANY, SPINNING, THOUSAND), ("never",))
        copying = ((((0,), (), 0), ((1,), (), 0), ((2,), (), 0), REST),)
        self.assertEqual(len(told_behind(MANY, copying, THOUSAND)[1]), 1000)
        twice = ((((0,), (), 0), ((1, 1), (), 0), ((2,), (), 0), REST),)
        with self.assertRaises(TooMany) as caught:
            told_behind(MANY, twice, THOUSAND)
        self.assertEqual(caught.exception.limit, 1000)


class Alike(unittest.TestCase):
    def renamed(self, source, routine):
        """The same routine with its posts in another order, and posts doubled."""
        many = len(routine)
        if many > 3:
            return routine
        copies = [post for post in routine for _ in range(2)]
        moved = []
        for post in copies:
            moved.append(tuple((marks, lines, -1 if goal == -1 else 2 * goal + source.randint(0, 1)) for marks, lines, goal in post))
        return tuple(moved)

    def test_alike(self):
        source = random.Random(38)
        routines = resting_routines(source, 120, 3)
        counts = {}
        for routine in routines:
            for other in (routine, self.renamed(source, routine), source.choice(routines)):
                alike = self.check_both(source, routine, other)
                counts[alike] = counts.get(alike, 0) + 1
        self.assertGreater(min(counts.values()), 60, counts)

    def check_both(self, source, routine, other):
        if raised(walk_of, (routine,)) or raised(walk_of, (other,)):
            self.assertIs(raised(parting_stack, (routine, other)), TooMany)
            return None
        unlike = [stack for stack in stacks(4) if run_slowly(routine, stack)[0] != run_slowly(other, stack)[0]]
        stack, paper = parting_stack(routine, other), handed_paper(routine, other)
        self.assertEqual(hand_out_alike(routine, other), stack is None)
        self.assertEqual(stack is None, paper is not None)
        if unlike:
            self.assertIsNotNone(stack, (routine, other))
        if stack is not None:
            self.assertNotEqual(run_slowly(routine, stack)[0], run_slowly(other, stack)[0])
            self.assertLessEqual(len(stack), 60)
            self.assertIs(is_handed_paper(routine, other, ((0, 0, (), ()),)), False)
            return False
        self.assertIs(is_handed_paper(routine, other, paper), True, (routine, other, paper))
        for at in range(len(paper)):
            one, two, ahead, behind = paper[at]
            self.assertIs(is_handed_paper(routine, other, paper[:at] + paper[at + 1:]), False)
            for wrong in ((one, two, ahead + (0,), behind), (one, two, ahead, (1,) + behind), (one, two, behind, ahead), list(paper[at]), paper[at][:3],
                          (one, two, list(ahead), behind), (one + 7, two, ahead, behind), (one, two - 7, ahead, behind), (one, two, None, behind)):
                if wrong != paper[at]:
                    value = paper[:at] + (wrong,) + paper[at + 1:]
                    self.assertIs(is_handed_paper(routine, other, value), False, value)
                    if isinstance(wrong, tuple) and len(wrong) == 4 and isinstance(wrong[2], tuple):
                        self.assertIs(is_handed_paper(routine, other, tuple(sorted(paper + (wrong,)))), False)
        self.assertIs(is_handed_paper(routine, other, list(paper)), False)
        self.assertIs(is_handed_paper(routine, other, paper + paper[-1:]), False)
        if len(paper) > 1:
            self.assertIs(is_handed_paper(routine, other, paper[::-1]), False)
        further = tuple(sorted({*paper, (-1, -1, (), ())}))
        self.assertIs(is_handed_paper(routine, other, further), True)
        return True

    def test_lags(self):
        # The one hands out a mark with each line, the other one one line later, and the last one at its foot.
        one = ((((0,), (), 0), ((1,), (), 0), ((2,), (), 0), REST),)
        late = tuple(
            tuple((marks, (), line + 1) for line in range(3)) + ((marks, (), -1),) for marks in ((), (0,), (1,), (2,))
        )
        paper = ((0, 0, (), ()), (0, 1, (0,), ()), (0, 2, (1,), ()), (0, 3, (2,), ()))
        self.assertEqual(handed_paper(one, late), paper)
        self.assertEqual(handed_paper(late, one), tuple((two, first, behind, ahead) for first, two, ahead, behind in sorted(paper, key=lambda row: row[1])))
        self.assertIs(is_handed_paper(one, late, paper), True)
        self.assertIs(is_handed_paper(one, late, ((-1, -1, (), ()),) + paper), True)
        self.assertIs(is_handed_paper(one, late, ((-1, -1, (0,), (0,)),) + paper), False)
        for value in (
            paper[1:], ((0, 0, (), ()),), ((0, 0, (0,), (0,)),) + paper[1:], ((False, 0, (), ()),) + paper[1:], ((0, 0, (), (False,)),) + paper[1:], ((0, 0, (), ()),) * 2,
            paper[:1] + ((0, 1, (False,), ()),) + paper[2:], paper[:1] + ((0, 1, (3,), ()),) + paper[2:], paper[:1] + ((0, 1, ["0"], ()),) + paper[2:],
            ((-1, 0, (), ()),) + paper, ((0, False, (), ()),) + paper[1:], paper + ((0, 4, (), ()),), paper + ((0, 3, (2, 2), ()),), ((-2, 0, (), ()),) + paper,
        ):
            self.assertIs(is_handed_paper(one, late, value), False, value)
        for value in ODD:
            self.assertIs(is_handed_paper(one, late, value), False, value)
        self.assertIs(hand_out_alike(one, late), True)
        mirrored = handed_paper(late, one)
        for at, wrong in ((1, (False,)), (1, [0]), (2, (True,)), (3, (3,))):
            value = tuple((*row[:3], wrong) if row[0] == at else row for row in mirrored)
            self.assertIs(is_handed_paper(late, one, value), False, value)
        self.assertIs(is_handed_paper(late, one, tuple((*row[:3], tuple(row[3])) for row in mirrored)), True)

    def test_further_quadruples(self):
        # Each line leads to the post 1, so both are never at unlike posts; what comes of such ones is in the paper, though.
        routine = (((((), (), 1),) * 3 + (REST,)), ((((), (), 1),) * 3 + (REST,)))
        paper = ((0, 0, (), ()), (1, 1, (), ()))
        self.assertEqual(handed_paper(routine, routine), paper)
        self.assertIs(is_handed_paper(routine, routine, (paper[0], (0, 1, (), ()), paper[1])), True)
        self.assertIs(is_handed_paper(routine, routine, (paper[0], (0, 1, (), ()), (1, 0, (), ()), paper[1])), True)
        for wrong in ((0, 1, (0,), (0,)), (0, 1, (0,), ()), (0, 1, (), (0,)), (0, 2, (), ())):
            self.assertIs(is_handed_paper(routine, routine, (paper[0], wrong, paper[1])), False, wrong)
        self.assertIs(is_handed_paper(routine, routine, ((-1, 0, (), ()),) + paper), False)
        self.assertIs(is_handed_paper(routine, routine, ((-1, 0, (), ()), (-1, 1, (), ())) + paper), True)

    def test_one_that_rests_ahead_of_the_other(self):
        # Both hand out a 1 with the first line 0; the one rests then, the other one goes on, and hands out nothing.
        one = ((((1,), (), -1), STAY, STAY, REST),)
        other = ((((1,), (), 1), STAY, STAY, REST), (((), (), 1), ((), (), 1), ((), (), -1), REST))
        self.assertEqual(handed_paper(one, other), ((-1, -1, (), ()), (-1, 1, (), ()), (0, 0, (), ())))
        self.assertIsNone(parting_stack(one, other))
        worse = (other[0], other[1][:2] + (((2,), (), -1), REST))
        self.assertEqual(parting_stack(one, worse), (0, 2))
        # The one hands out more when it rests, the other one at its foot.
        early = ((((1, 2), (), -1), STAY, STAY, REST),)
        late = ((((1,), (), 1), STAY, STAY, REST), (((), (), 1), ((), (), 1), ((2,), (), 2), ((2,), (), -1)), (((), (), 2),) * 3 + (REST,))
        self.assertEqual(handed_paper(early, late), ((-1, 1, (2,), ()), (-1, 2, (), ()), (0, 0, (), ())))
        self.assertIs(hand_out_alike(early, late), True)


class Errors(unittest.TestCase):
    def test_thousand_marks_of_a_pair(self):
        # The first line 1 is taken just once.
        for routine, many in ((GREAT, 1001), (with_marks(0, 1, (2,)), 1002), (with_marks(0, 1, (2, 1)), 1003)):
            self.assertEqual(most_marks(routine), many)
            self.check_too_many(routine)
        for routine in (with_marks(2, 2, ()), with_marks(4, 1, (0,))):
            self.assertLess(most_marks(routine), 1001)
            self.assertEqual(len(walk_of(routine)), 12)
            self.assertIs(hand_out_alike(routine, routine), True)
        exact = (
            (((), (), 0), ((0, 1), (0, 0, 0), 3), ((), (), 5), REST), GREAT[1], GREAT[2][:2] + (((0, 1), (2, 0, 0), 3), REST),
            (((0, 1), (0, 0, 0), 4), ((), (0, 2, 1), 2), ((0, 1), (2, 0, 0), 4), REST),
            (((0, 1), (0, 0, 0), 5), ((0, 1), (1, 1, 1), 1), ((), (1, 0, 0), 4), REST), GREAT[5],
        )
        self.assertEqual(max(len(marks) for _, _, marks, _ in walk_of(exact)), 1000)
        self.assertIsNone(parting_stack(exact, exact))
        self.assertIsNone(handing_stack(exact, (2, 2)))

    def check_too_many(self, many):
        for function, arguments in (
            (walk_of, (many,)), (handing_stack, (many, ())), (is_none_paper, (many, (), None)), (none_paper, (many, ())), (endless_behind, (many, QUIET)),
            (hand_out_alike, (many, QUIET)), (hand_out_alike, (QUIET, many)), (parting_stack, (QUIET, many)), (is_handed_paper, (many, QUIET, None)),
            (handed_paper, (QUIET, many)),
        ):
            with self.assertRaises(TooMany) as caught:
                function(*arguments)
            self.assertEqual(caught.exception.limit, 1000)
        self.assertIsNone(endless_behind(QUIET, many))
        self.assertEqual(told_behind(QUIET, many, ()), ("rest", (), (), 2))
        self.assertEqual(told_behind(many, QUIET, ()), ("rest", (), (), 2))
        # A routine that does not rest is told of ahead of too many marks.
        for function in (hand_out_alike, parting_stack, handed_paper):
            self.assertIs(raised(function, (many, SPINNING)), NeverRests)
            self.assertIs(raised(function, (SPINNING, many)), NeverRests)

    def test_routines_that_must_rest(self):
        for function, arguments in (
            (walk_of, (SPINNING,)), (handing_stack, (SPINNING, ())), (is_none_paper, (SPINNING, (), None)), (none_paper, (SPINNING, ())),
            (told_behind, (SPINNING, QUIET, ())), (endless_behind, (SPINNING, QUIET)), (hand_out_alike, (SPINNING, QUIET)), (hand_out_alike, (QUIET, SPINNING)),
            (parting_stack, (QUIET, SPINNING)), (is_handed_paper, (QUIET, SPINNING, None)), (handed_paper, (SPINNING, SPINNING)),
        ):
            self.assertIs(raised(function, arguments), NeverRests, function)
        # One that rests on some stacks alone must rest, too.
        half = ((STAY, ((), (1,), 0), STAY, REST),)
        self.assertIs(raised(told_behind, (half, QUIET, ())), NeverRests)
        self.assertIs(raised(handing_stack, (half, ())), NeverRests)
        # A post to which no stack leads does not matter.
        spare = (QUIET[0], (((), (), 1),) * 4)
        self.assertEqual(handing_stack(spare, ()), ())
        self.assertIs(hand_out_alike(spare, QUIET), True)

    def test_routines(self):
        move = ((0, 1), (0, 1, 2), -1)
        self.assertIs(is_routine(((move,) * 4,) * 6), True)
        for value in (
            (), ((move,) * 4,) * 7, ((move,) * 3,), ((move,) * 5,), [(move,) * 4], ([move] * 4,), ((move, move, move, list(move)),), ((move[:2],) * 4,), ((move + (0,),) * 4,),
            ((((0, 1, 2), (), 0),) * 4,), ((((), (0,) * 4, 0),) * 4,), ((((3,), (), 0),) * 4,), ((((), (3,), 0),) * 4,), ((((-1,), (), 0),) * 4,), ((((), (True,), 0),) * 4,),
            ((((), (), 1),) * 4,), ((((), (), -2),) * 4,), ((((), (), None),) * 4,), ((((), (), False),) * 4,), ((([], (), 0),) * 4,), ((((), [], 0),) * 4,), move, ((0,) * 4,), 5,
        ):
            self.assertIs(is_routine(value), False, value)
        for value in ODD:
            self.assertIs(is_routine(value), False, value)


if __name__ == "__main__":
    unittest.main()
