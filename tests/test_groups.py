"""Deeds on groups: done, told by forms, moved, left out, and kept on stacks; against a slow way."""

import itertools
import random
import unittest

from settlepages.errors import InvalidState, NoGroup, TooMany
from settlepages.groupforms import are_alike, form_of, parting_state
from settlepages.groupmoves import idle_deeds, idle_groups, places_of, thinned_deeds
from settlepages.grouprows import deeds_of, done_deeds, is_deeds, is_state
from settlepages.groupstacks import least_stack, stack_by, state_told
from tests.groups import (
    KEYS, TOKENS, all_rows, done_slowly, many_ended_slowly, random_deeds, random_state, rich_states, told_by_form,
)
from tests.odd import ODD, raised

N, M, L = KEYS
A, B, X = TOKENS
BEGIN, END = ("begin",), ("end",)
EMPTY = (((), ()),)
SOME = (BEGIN, END, ("set", N, 1, False), ("set", N, 1, True), ("more", N, 1, False), ("copy", M, N, False), ("tell", N), ("tell", M), ("after", A))
RICH = rich_states(6, 3)


def tell_alike(deeds, others, states=RICH):
    """Whether two rows tell, and come to, the same in some states, as far as these are high enough."""
    return all(done_slowly(state, deeds) == done_slowly(state, others) for state in states)


class Doing(unittest.TestCase):
    def test_deeds_in_states(self):
        source = random.Random(40)
        counts = {"done": 0, NoGroup: 0, InvalidState: 0}
        for _ in range(3000):
            state = random_state(source, source.choice((1, 1, 2, 3, 6)), great=2)
            if source.random() < 0.9:
                state = tuple((tuple((key, number * 5 * 10 ** 11) for key, number in numbers), kept) for numbers, kept in state)
            deeds = random_deeds(source, 12, great=10 ** 9)
            found = done_slowly(state, deeds)
            error = raised(done_deeds, (state, deeds))
            if found is None:
                self.assertIs(error, NoGroup)
            elif not is_state(found[1]):
                self.assertIs(error, InvalidState)
            else:
                self.assertEqual(done_deeds(state, deeds), found)
            counts[error or "done"] += 1
        self.assertGreater(min(counts.values()), 50, counts)

    def test_each_deed(self):
        state = (((((N, 4),), ()), (((N, 1), (M, 2)), (A, B))))
        for deed, told, behind in (
            (BEGIN, (), (*state, (((N, 1), (M, 2)), ()))),
            (END, (("token", A), ("token", B)), state[:1]),
            (("set", M, 0, False), (), (state[0], (((N, 1),), (A, B)))),
            (("set", M, 9, True), (), ((((N, 4), (M, 9)), ()), (((N, 1), (M, 9)), (A, B)))),
            (("more", N, 2, False), (), (state[0], (((N, 3), (M, 2)), (A, B)))),
            (("more", N, 2, True), (), ((((N, 3),), ()), (((N, 3), (M, 2)), (A, B)))),
            (("copy", N, M, False), (), (state[0], (((N, 2), (M, 2)), (A, B)))),
            (("copy", N, M, True), (), ((((N, 2),), ()), (((N, 2), (M, 2)), (A, B)))),
            (("copy", N, L, True), (), (((), ()), (((M, 2),), (A, B)))),
            (("tell", N), (("number", 1),), state),
            (("tell", L), (("number", 0),), state),
            (("after", X), (), (state[0], (((N, 1), (M, 2)), (A, B, X)))),
        ):
            self.assertEqual(done_deeds(state, (deed,)), (told, behind), deed)
        self.assertEqual(done_deeds(state, ()), ((), state))

    def test_where_just_one_group_stands(self):
        for deeds in ((END,), (("after", A),), (BEGIN, END, END), (BEGIN, END, ("after", A)), (("tell", N), END, BEGIN)):
            self.assertIs(raised(done_deeds, (EMPTY, deeds)), NoGroup, deeds)
            for way in ("each", "first"):
                self.assertIs(raised(stack_by, (EMPTY, deeds, way)), NoGroup, deeds)
            self.assertIsNone(raised(done_deeds, (EMPTY * 2, deeds)))
        self.assertIs(raised(done_deeds, (EMPTY * 2, (END, END))), NoGroup)
        # It is not done ahead of the bounds of the state behind.
        self.assertIs(raised(done_deeds, (((((N, 10 ** 12),), ()),), (("more", N, 1, False), END))), NoGroup)

    def test_bounds_of_states_behind(self):
        high = ((((N, 10 ** 12),), ()),)
        self.assertIs(raised(done_deeds, (high, (("more", N, 1, False),))), InvalidState)
        self.assertEqual(done_deeds(high, (("more", N, 1, False), ("tell", N), ("more", N, -1, False))), ((("number", 10 ** 12 + 1),), high))
        low = ((((N, -10 ** 12),), ()),)
        self.assertIs(raised(done_deeds, (low, (("more", N, -1, True),))), InvalidState)
        self.assertEqual(done_deeds(low, (("more", N, 0, True),)), ((), low))
        hundred = EMPTY * 100
        self.assertIs(raised(done_deeds, (hundred, (BEGIN,))), InvalidState)
        self.assertEqual(done_deeds(hundred, (BEGIN, ("after", A), END)), ((("token", A),), hundred))
        self.assertEqual(done_deeds(hundred, (END,) * 60)[1], EMPTY * 40)
        full = (((), ()), ((), (A,) * 60))
        self.assertIs(raised(done_deeds, (full, (("after", A),))), InvalidState)
        self.assertEqual(done_deeds(full, (("after", B), END))[0], (("token", A),) * 60 + (("token", B),))
        self.assertEqual(done_deeds(EMPTY * 2, (("after", A),) * 60)[1], full)
        self.assertEqual(done_deeds(EMPTY, (BEGIN,) * 60)[1], EMPTY * 61)

    def test_what_is_a_row_of_deeds(self):
        good = (
            BEGIN, END, ("set", N, 10 ** 9, True), ("set", ("len", "7"), -10 ** 9, False), ("more", N, 0, False), ("copy", N, L, True), ("tell", ("num", "7")),
            ("after", A), ("after", ("name", "a" * 20)), ("after", (4, " ")), ("after", (5, "1")),
        )
        for deed in good:
            self.assertIs(is_deeds((deed,) * 60), True, deed)
            self.assertIs(is_deeds((deed,) * 61), False)
            self.assertIs(is_deeds([deed]), False)
            self.assertIs(is_deeds(deed), False)
        self.assertIs(is_deeds(()), True)
        for deed in (
            (), ("begin", 1), ("end", N), ("Begin",), ["begin"], "begin", ("set", N, 10 ** 9 + 1, True), ("set", N, -10 ** 9 - 1, True), ("set", N, True, True),
            ("set", N, 1, 1), ("set", N, 1, None), ("set", N, 1), ("set", N, 1, True, True), ("set", ("num", "8"), 1, True), ("set", ("row", "0"), 1, True),
            ("set", ("kind", "a"), 1, True), ("set", ["num", "0"], 1, True), ("set", "num", 1, True), ("set", ("num", 0), 1, True), ("set", ("num", ""), 1, True),
            ("more", N, "1", True), ("more", N, M, True), ("more", N, 1, 0), ("copy", N, N, True), ("copy", N, 1, True), ("copy", 1, N, True), ("copy", N, M, 1), ("copy", N, M),
            ("tell",), ("tell", N, N), ("tell", ("name", "a")), ("tell", None), ("after",), ("after", (0, "!")), ("after", (4, "a")), ("after", A, A), ("after", [5, "a"]),
            (5,), (None,), (["begin"],), ("put", "a"), (("begin",),),
        ):
            self.assertIs(is_deeds((deed,)), False, deed)
            self.assertIs(is_deeds((BEGIN, deed)), False, deed)
        for value in ODD:
            self.assertIs(is_deeds(value), value == () and isinstance(value, tuple))

    def test_what_is_a_state(self):
        for value in (
            EMPTY, EMPTY * 100, ((((N, 10 ** 12),), ()),), ((((N, -10 ** 12), (M, 1)), ()),), (((), ()), ((), (A,) * 60)),
            ((((("len", "0"), 1), (("len", "7"), 1), (("num", "0"), 1)), ()),), (((), ()), ((), ((5, "1"), ("name", "ab")))),
        ):
            self.assertIs(is_state(value), True, value)
        for value in (
            (), EMPTY * 101, [((), ())], (((), (A,)),), (((), ()), ((), (A,) * 61)), ((((N, 10 ** 12 + 1),), ()),), ((((N, -10 ** 12 - 1),), ()),),
            ((((N, 0),), ()),), ((((N, True),), ()),), ((((N, False),), ()),), ((((N, 1), (N, 2)), ()),), ((((M, 1), (N, 1)), ()),), ((((N, 1), (("len", "0"), 1)), ()),),
            (([], ()),), (((), []),), (((), (), ()),), (((),),), ((((N,),), ()),), ((((N, "1"),), ()),), ((((N, None),), ()),), (((((("num", "8")), 1),), ()),),
            (((), ()), ((), ((0, "!"),))), ((), ()), (((), ()), ((), A)), ((([N, 1],), ()),), ((((("row", "0"), 1),), ()),), (((), ()), [(), ()]),
        ):
            self.assertIs(is_state(value), False, value)
        for value in ODD:
            self.assertIs(is_state(value), False)


class DeedsOfTexts(unittest.TestCase):
    def test_texts(self):
        for text, deeds in (
            ("", ()), ("a b\n", ()), ("(a)\n", (BEGIN, END)), ("!box(a)\n", (BEGIN, END)), ("!num0=5 !len7-3 \n", (("set", N, 5, False), ("set", ("len", "7"), -3, False))),
            ("!kind!q4!row0(ab)!let!x!y!rule!f(a)\n", ()), ("(!everywhere!num0 3 !everywhere!row0(a))\n", (BEGIN, ("set", N, 3, True), END)),
            ("!num0 5 !more!num0 2 \n", (("set", N, 5, False), ("set", N, 7, False))), ("(!after a!after!x\n", (BEGIN, ("after", A), ("after", X))),
            ("!num0 1 )!num0 2 \n", (("set", N, 1, False),)), ("(!after(\n", (BEGIN, ("after", (1, "(")))), ("(!stop\n", (BEGIN,)),
        ):
            self.assertEqual(deeds_of(text, (), 99), deeds, text)
        self.assertEqual(deeds_of("((((\n", (), 2), (BEGIN, BEGIN))
        self.assertEqual(deeds_of("!free!num0 1 !else!num0 2 !endtest\n", (True,), 99), (("set", N, 1, False),))
        self.assertEqual(deeds_of("!free!num0 1 !else!num0 2 !endtest\n", (), 99), (("set", N, 2, False),))

    def test_sixty(self):
        self.assertEqual(deeds_of("(" * 60 + "\n", (), 99), (BEGIN,) * 60)
        for text in ("(" * 61 + "\n", "()" * 31 + "\n", "!num0 1 " * 49 + "\n"):
            if len(text) < 390:
                with self.assertRaises(TooMany) as caught:
                    deeds_of(text, (), 99)
                self.assertEqual(caught.exception.limit, 60)
        self.assertEqual(deeds_of("(" * 61 + "\n", (), 60), (BEGIN,) * 60)
        # What comes more than sixty times, but is no deed, does not count.
        self.assertEqual(deeds_of("!kind!q4" * 40 + "a" * 60 + "\n", (), 2000), ())


class Forms(unittest.TestCase):
    def test_forms_tell_what_deeds_do(self):
        source = random.Random(41)
        for _ in range(2000):
            deeds = random_deeds(source, source.choice((3, 8, 20)))
            form = form_of(deeds)
            ended, _, wide, base, _, opened = form
            self.assertEqual(ended, many_ended_slowly(deeds))
            for state in (random_state(source, ended + 2), random_state(source, ended + 4), random_state(source, ended + 2, great=1)):
                self.assertEqual(told_by_form(state, form), done_slowly(state, deeds), (state, deeds))
            self.assertEqual([key for key, _ in wide], sorted({deed[1] for deed in deeds if deed[-1] is True}))
            for terms in (base, *(terms for terms, _ in opened)):
                self.assertEqual(list(terms), sorted(terms, key=lambda pair: pair[0]))
                self.assertTrue(all(term != ("old", ended, key, 0) for key, term in terms))

    def test_forms(self):
        old = lambda up, key, more=0: ("old", up, key, more)
        for deeds, form in (
            ((), (0, (), (), (), (), ())),
            ((BEGIN, END), (0, (), (), (), (), ())),
            ((BEGIN,), (0, (), (), (), (), (((), ()),))),
            ((END,), (1, (("kept", 0),), (), (), (), ())),
            ((END, END, BEGIN, BEGIN), (2, (("kept", 0), ("kept", 1)), (), (), (), (((), ()), ((), ())))),
            ((END, BEGIN), (1, (("kept", 0),), (), (), (), (((), ()),))),
            ((("set", N, 0, False),), (0, (), (), ((N, ("is", 0)),), (), ())),
            ((("more", N, 3, False), ("more", N, -3, False)), (0, (), (), (), (), ())),
            ((("more", N, 3, True), ("more", N, -3, True)), (0, (), ((N, old(0, N)),), (), (), ())),
            ((("set", N, 1, True), ("set", N, 2, False)), (0, (), ((N, ("is", 1)),), ((N, ("is", 2)),), (), ())),
            ((("copy", N, M, False), ("copy", M, N, False)), (0, (), (), ((N, old(0, M)),), (), ())),
            ((("copy", N, M, False), ("more", N, 2, False), ("set", M, 7, False), ("tell", N)), (0, (("number", old(0, M, 2)),), (), ((M, ("is", 7)), (N, old(0, M, 2))), (), ())),
            ((("more", N, 1, True), END), (1, (("kept", 0),), ((N, old(0, N, 1)),), ((N, old(0, N, 1)),), (), ())),
            ((("after", A), ("after", B), END, ("after", X)), (1, (("kept", 0), ("token", A), ("token", B)), (), (), (X,), ())),
            ((BEGIN, ("after", A), END, ("after", X)), (0, (("token", A),), (), (), (X,), ())),
            ((BEGIN, ("set", N, 3, True)), (0, (), ((N, ("is", 3)),), ((N, ("is", 3)),), (), ((((N, ("is", 3)),), ()),))),
            ((BEGIN, ("copy", M, N, True), ("set", M, 1, False)), (0, (), ((M, old(0, N)),), ((M, old(0, N)),), (), ((((M, ("is", 1)),), ()),))),
            ((("set", N, 4, False), BEGIN, ("more", N, 1, False), ("after", A)), (0, (), (), ((N, ("is", 4)),), (), ((((N, ("is", 5)),), (A,)),))),
            ((BEGIN, BEGIN, ("after", A), END, ("tell", L), END, ("tell", N), END, ("tell", N)),
             (1, (("token", A), ("number", old(0, L)), ("number", old(0, N)), ("kept", 0), ("number", old(1, N))), (), (), (), ())),
        ):
            expected = tuple(tuple(sorted(part)) if at == 3 else part for at, part in enumerate(form))
            self.assertEqual(form_of(deeds), expected, deeds)

    def test_sixty_deeds(self):
        self.assertEqual(form_of((END,) * 60), (60, tuple(("kept", up) for up in range(60)), (), (), (), ()))
        self.assertEqual(form_of((BEGIN,) * 60)[5], (((), ()),) * 60)
        self.assertEqual(form_of((("more", N, 10 ** 9, False),) * 60)[3], ((N, ("old", 0, N, 60 * 10 ** 9)),))
        self.assertEqual(form_of((BEGIN, END) * 30), form_of(()))
        self.assertEqual(form_of((END, BEGIN) * 30)[0], 1)
        self.assertEqual(form_of((("after", A),) * 60)[4], (A,) * 60)

    def test_all_short_rows(self):
        rows = all_rows(SOME, 3)
        by_form, by_deeds = {}, {}
        for row in rows:
            by_form.setdefault(form_of(row), []).append(row)
            by_deeds.setdefault(tuple(done_slowly(state, row) for state in RICH), []).append(row)
        self.assertEqual(sorted(map(sorted, by_form.values())), sorted(map(sorted, by_deeds.values())))
        self.assertGreater(len(rows), len(by_form) + 100)

    def check_pair(self, one, other):
        state = parting_state(one, other)
        alike = form_of(one) == form_of(other)
        self.assertIs(are_alike(one, other), alike)
        if alike:
            self.assertIsNone(state)
            self.assertTrue(tell_alike(one, other, rich_states(max(map(many_ended_slowly, (one, other))) + 3, 2)), (one, other))
        else:
            self.assertTrue(is_state(state), (one, other))
            self.assertGreaterEqual(len(state), max(map(many_ended_slowly, (one, other))) + 2)
            self.assertNotEqual(done_slowly(state, one), done_slowly(state, other), (one, other, state))
        return alike, state

    def test_parting_states_of_short_rows(self):
        rows = all_rows(SOME, 2)
        source = random.Random(42)
        alike = 0
        for one, other in itertools.product(rows, rows):
            if one == other or source.random() < 0.3:
                found, state = self.check_pair(one, other)
                alike += found
                if not found:
                    # Both can be done, to states.
                    self.assertIsNone(raised(done_deeds, (state, one)))
                    self.assertIsNone(raised(done_deeds, (state, other)))
        self.assertGreater(alike, 100)

    def test_parting_states_of_rows_that_differ_a_little(self):
        source = random.Random(43)
        counts = {True: 0, False: 0}
        for _ in range(3000):
            one = random_deeds(source, 10)
            other = list(one)
            for _ in range(source.choice((1, 1, 2))):
                change = source.random()
                if other and change < 0.4:
                    other.pop(source.randrange(len(other)))
                elif len(other) > 1 and change < 0.7:
                    at = source.randrange(len(other) - 1)
                    other[at:at + 2] = reversed(other[at:at + 2])
                else:
                    other[source.randint(0, len(other)):0] = random_deeds(source, 1)
            counts[self.check_pair(one, tuple(other))[0]] += 1
        self.assertGreater(min(counts.values()), 300, counts)

    def test_forms_that_differ_in_one_part_alone(self):
        for one, other in (
            # What is told: a number, a token, where tokens are told.
            ((("tell", N),), (("tell", M),)), ((("tell", N),), ()), ((END, ("tell", N)), (("tell", N), END)),
            ((("after", A), END), (("after", B), END)), ((BEGIN, ("after", A), END, END), (END, BEGIN, ("after", A), END)),
            ((BEGIN, ("after", B), END, END), (END, BEGIN, ("after", B), END)), ((END, ("tell", N)), (END, BEGIN, ("after", A), END)),
            # What is wide.
            ((("set", N, 0, True), ("set", N, 1, False)), (("set", N, 1, False),)), ((("set", N, 2, True), ("set", N, 1, False)), (("set", N, 3, True), ("set", N, 1, False))),
            ((("copy", N, M, True),), (("copy", N, M, False),)), ((("more", N, 0, True),), ()), ((END, ("more", N, 0, True)), (END,)),
            # The base, and its tokens.
            ((("set", N, 0, False),), ()), ((("more", N, 1, False),), (("more", N, 2, False),)), ((("copy", N, M, False),), ()), ((("after", A),), ()), ((("after", A),), (("after", B),)),
            ((("after", A),) * 60, (("after", A),) * 59), ((("after", A),) * 60, (END,)), ((("after", A),) * 60, (END, BEGIN)),
            # A token that a group of the state kept.
            ((END, BEGIN), ()), ((END,), (END, END, BEGIN)), ((END, BEGIN, ("after", A)), (("after", A),)),
            # Groups that are left open.
            ((BEGIN,), ()), ((BEGIN, ("after", A)), (BEGIN,)), ((BEGIN, ("set", N, 0, False)), (BEGIN,)), ((("set", N, 1, False), BEGIN), (BEGIN, ("set", N, 1, False))),
            ((BEGIN, BEGIN), (BEGIN,)), ((END, END, BEGIN, BEGIN), (END, BEGIN)), ((BEGIN, ("copy", N, M, False), ("copy", L, N, False)), (BEGIN, ("copy", N, M, False), ("copy", L, M, False), ("tell", N))),
            ((END,) * 30 + (("tell", N),), (END,) * 30 + (("tell", M),)), ((END,) * 59 + (("more", N, 0, True),), (END,) * 59), ((END,) * 60, (END,) * 59),
        ):
            for first, second in ((one, other), (other, one)):
                found, state = self.check_pair(first, second)
                self.assertFalse(found, (one, other))
                self.assertIsNone(raised(done_deeds, (state, one)), (one, other))
                self.assertIsNone(raised(done_deeds, (state, other)), (one, other))
        # No state of at most 100 groups lets one of these be done to a state.
        self.assertFalse(self.check_pair((BEGIN,) * 60, (END,) * 60)[0])

    def test_forms_that_are_the_same(self):
        for one, other in (
            ((BEGIN, ("copy", N, M, False), ("copy", L, N, False)), (BEGIN, ("copy", L, M, False), ("copy", N, L, False))),
            ((("set", N, 1, True), BEGIN), (BEGIN, ("set", N, 1, True))), ((BEGIN, ("set", N, 1, False), END), ()),
            ((("copy", N, M, False), ("copy", M, N, False)), (("copy", N, M, False),)), ((END, BEGIN, END, END), (END, END)),
            ((BEGIN, ("after", A), END), (BEGIN, ("set", N, 5, False), ("after", A), END)), ((("tell", N), BEGIN), (BEGIN, ("tell", N))),
            ((BEGIN, ("more", N, 1, True), END), (("more", N, 1, True),)), ((BEGIN, ("set", N, 5, False), ("more", N, 1, True), END), (("set", N, 6, True),)),
        ):
            self.assertTrue(self.check_pair(one, other)[0], (one, other))


class Moves(unittest.TestCase):
    def test_against_the_slow_way(self):
        source = random.Random(44)
        counts = {"places": 0, "idle": 0, "groups": 0, "thinned": 0}
        for _ in range(400):
            deeds = random_deeds(source, 9)
            states = rich_states(many_ended_slowly(deeds) + 6, 2)
            alike = lambda row: tell_alike(row, deeds, states)
            for index, deed in enumerate(deeds):
                rest = deeds[:index] + deeds[index + 1:]
                expected = [at for at in range(len(deeds)) if alike(rest[:at] + (deed,) + rest[at:])]
                self.assertEqual(places_of(deeds, index), expected, (deeds, index))
                counts["places"] += len(expected) > 1
            idle = lambda row: [at for at in range(len(row)) if alike(row[:at] + row[at + 1:])]
            self.assertEqual(idle_deeds(deeds), idle(deeds), deeds)
            self.assertEqual(idle_groups(deeds), self.groups_idle(deeds, alike), deeds)
            counts["idle"] += idle(deeds) != []
            counts["groups"] += idle_groups(deeds) != []
            thinned = thinned_deeds(deeds)
            left = iter(deeds)
            self.assertTrue(all(deed in left for deed in thinned))
            self.assertTrue(alike(thinned))
            self.assertEqual((idle(thinned), self.groups_idle(thinned, alike)), ([], []))
            self.assertEqual(form_of(thinned), form_of(deeds))
            counts["thinned"] += len(thinned) < len(deeds) - len(idle(deeds)) - 1
        self.assertGreater(min(counts.values()), 30, counts)

    def groups_idle(self, deeds, alike):
        found = []
        for first, last in itertools.combinations(range(len(deeds)), 2):
            if deeds[first] != BEGIN or deeds[last] != END:
                continue
            heights = list(itertools.accumulate((deed == BEGIN) - (deed == END) for deed in deeds[first:last + 1]))
            if heights[-1] == 0 and min(heights[:-1]) > 0 and alike(deeds[:first] + deeds[first + 1:last] + deeds[last + 1:]):
                found.append((first, last))
        return found

    def test_moves(self):
        self.assertEqual(places_of((BEGIN, END), 0), [0])
        self.assertEqual(places_of((END, BEGIN), 0), [0])
        self.assertEqual(places_of((("tell", N), ("tell", M)), 0), [0])
        # From the first index to the last one, and back.
        row = (("set", N, 1, False), ("set", M, 1, False), ("tell", L))
        self.assertEqual([places_of(row, index) for index in range(3)], [[0, 1, 2]] * 3)
        self.assertEqual(places_of((("after", A), ("tell", N), ("after", B)), 1), [0, 1, 2])
        self.assertEqual(places_of((("after", A), ("tell", N), ("after", B)), 0), [0, 1])
        self.assertEqual(places_of((("set", N, 1, True), BEGIN, BEGIN, END), 0), [0, 1, 2, 3])
        self.assertEqual(places_of((("set", N, 1, False),) * 60, 30), list(range(60)))
        self.assertEqual(idle_deeds(()), [])
        self.assertEqual(idle_groups(()), [])
        self.assertEqual(thinned_deeds(()), ())

    def test_idle(self):
        self.assertEqual(idle_deeds((("set", N, 1, False), ("set", N, 1, False))), [0, 1])
        self.assertEqual(idle_deeds((("more", N, 1, False), ("more", N, -1, False))), [])
        self.assertEqual(thinned_deeds((("more", N, 1, False), ("more", N, -1, False))), (("more", N, 1, False), ("more", N, -1, False)))
        # Just as a pair a begin and its end can be left out.
        row = (BEGIN, ("tell", N), END, ("tell", N))
        self.assertEqual((idle_deeds(row), idle_groups(row)), ([], [(0, 2)]))
        self.assertEqual(thinned_deeds(row), (("tell", N), ("tell", N)))
        row = (BEGIN, BEGIN, END, END)
        self.assertEqual((idle_deeds(row), idle_groups(row)), ([], [(0, 3), (1, 2)]))
        self.assertEqual(thinned_deeds(row), ())
        row = (BEGIN, ("set", N, 1, False), ("tell", N), END, ("tell", N))
        self.assertEqual((idle_deeds(row), idle_groups(row)), ([], []))
        self.assertEqual(thinned_deeds(row), row)
        self.assertEqual(idle_groups((END, BEGIN)), [])
        self.assertEqual(idle_groups((BEGIN, END, END)), [(0, 1)])
        # A begin that stays open belongs to no end.
        self.assertEqual(idle_groups((BEGIN, BEGIN, ("tell", N), END)), [(1, 3)])

    def test_turn_by_turn(self):
        # The group can go just when what is set in it has gone.
        row = (BEGIN, ("set", N, 1, False), END)
        self.assertEqual((idle_deeds(row), idle_groups(row), thinned_deeds(row)), ([1], [], ()))
        row = (BEGIN, ("set", N, 1, False), BEGIN, ("copy", M, N, False), END, ("tell", M), END, ("tell", N))
        self.assertEqual((idle_deeds(row), idle_groups(row)), ([1, 3], []))
        self.assertEqual(thinned_deeds(row), (("tell", M), ("tell", N)))
        # The first deed can go just when the second one has gone.
        row = (("copy", N, M, False), ("copy", M, N, False), ("set", N, 7, False))
        self.assertEqual(idle_deeds(row), [1])
        self.assertEqual(thinned_deeds(row), row[2:])
        row = (BEGIN, END) * 30
        self.assertEqual(thinned_deeds(row), ())
        row = (BEGIN, ("set", N, 1, False)) * 15 + (END,) * 30
        self.assertEqual(form_of(thinned_deeds(row)), form_of(row))
        self.assertEqual(thinned_deeds(row), (END,) * 15)


def stack_slowly(state, deeds, way):
    """The entries to which deeds lead from the least ones, and the most entries back; as the words tell it."""
    entries = []
    for outer, inner in zip(state, state[1:]):
        entries.append(("group", inner[1]))
        keys = sorted({key for key, _ in outer[0] + inner[0]})
        entries += [("back", key, dict(outer[0]).get(key, 0)) for key in keys if dict(outer[0]).get(key, 0) != dict(inner[0]).get(key, 0)]
    most = sum(entry[0] == "back" for entry in entries)
    for at, deed in enumerate(deeds):
        _, groups = done_slowly(state, deeds[:at])
        begun = [index for index, entry in enumerate(entries) if entry[0] == "group"]
        if deed == BEGIN:
            entries.append(("group", ()))
        elif deed == END:
            entries = entries[:begun[-1]]
        elif deed[0] == "after":
            entries[begun[-1]] = ("group", entries[begun[-1]][1] + (deed[1],))
        elif deed[-1] is True:
            entries = [entry for entry in entries if entry[:2] != ("back", deed[1])]
        elif deed[0] != "tell" and len(groups) > 1:
            if way == "each" or not any(entry[1] == deed[1] for entry in entries[begun[-1] + 1:]):
                entries.append(("back", deed[1], dict(groups[-1][0]).get(deed[1], 0)))
        most = max(most, sum(entry[0] == "back" for entry in entries))
    _, groups = done_slowly(state, deeds)
    return (groups[-1][0], tuple(entries)), most, groups


class Stacks(unittest.TestCase):
    def test_stacks_of_states(self):
        source = random.Random(45)
        for _ in range(500):
            state = random_state(source, source.choice((1, 2, 3, 8)), great=source.choice((1, 2, 10 ** 12)))
            stack = least_stack(state)
            self.assertEqual(state_told(stack), state)
            differing = sum(dict(one[0]).get(key, 0) != dict(two[0]).get(key, 0) for one, two in zip(state, state[1:]) for key in KEYS)
            self.assertEqual(len(stack[1]), len(state) - 1 + differing)

    def test_no_stack_with_fewer_entries(self):
        source = random.Random(46)
        for _ in range(40):
            state = random_state(source, 2, keys=(N, M), great=2)
            stack = least_stack(state)
            entries = [("group", state[1][1]), *(("back", key, number) for key in (N, M) for number in range(-2, 3))]
            for many in range(len(stack[1])):
                for row in itertools.product(entries, repeat=many):
                    if raised(state_told, ((state[-1][0], row),)) is None:
                        self.assertNotEqual(state_told((state[-1][0], row)), state)

    def test_states_that_stacks_tell(self):
        for stack, state in (
            (((), ()), EMPTY), ((((N, 1),), ()), ((((N, 1),), ()),)), (((), (("group", (A,)),)), (((), ()), ((), (A,)))),
            ((((N, 1),), (("group", ()), ("back", N, 0))), (((), ()), (((N, 1),), ()))),
            # The first number given back is the one that counts further out.
            ((((N, 1),), (("group", ()), ("back", N, 2), ("back", N, 3))), ((((N, 2),), ()), (((N, 1),), ()))),
            ((((N, 1),), (("group", ()), ("back", N, 1))), ((((N, 1),), ()), (((N, 1),), ()))),
            (((), (("group", ()), ("back", N, 5), ("group", (B,)), ("back", M, -5))), ((((M, -5), (N, 5)), ()), (((M, -5),), ()), ((), (B,)))),
            # A number that no group has may be any.
            (((), (("group", ()), ("back", N, 5), ("back", N, 10 ** 13))), ((((N, 5),), ()), ((), ()))),
        ):
            expected = tuple((tuple(sorted(numbers)), kept) for numbers, kept in state)
            self.assertEqual(state_told(stack), expected, stack)

    def test_entries_back_behind_the_last_group_and_ahead_of_it(self):
        state = EMPTY * 2
        ahead = (("set", N, 1, False), BEGIN, ("set", N, 2, False), ("set", N, 3, False))
        self.assertEqual(stack_by(state, ahead, "first")[0][1], (("group", ()), ("back", N, 0), ("group", ()), ("back", N, 1)))
        self.assertEqual(stack_by(state, ahead, "each")[0][1], (("group", ()), ("back", N, 0), ("group", ()), ("back", N, 1), ("back", N, 2)))
        self.assertEqual(stack_by(state, ahead + (END, ("set", N, 4, False)), "first"), ((((N, 4),), (("group", ()), ("back", N, 0))), 2))
        self.assertEqual(stack_by(state, ahead + (END, ("set", N, 4, False)), "each"), ((((N, 4),), (("group", ()), ("back", N, 0), ("back", N, 1))), 3))
        # Wide deeds take entries away, also those further out.
        self.assertEqual(stack_by(state, ahead + (("more", N, 1, True),), "each"), ((((N, 4),), (("group", ()), ("group", ()))), 3))
        self.assertEqual(stack_by(state, ahead + (("copy", N, M, True), ("set", N, 0, False)), "first"), (((), (("group", ()), ("group", ()), ("back", N, 0))), 2))
        self.assertEqual(stack_by(EMPTY, (("set", N, 1, False), ("set", N, 2, False)), "each"), ((((N, 2),), ()), 0))
        # What is set to the number that it has is kept, too.
        self.assertEqual(stack_by(state, (("set", N, 0, False),) * 2, "each"), (((), (("group", ()), ("back", N, 0), ("back", N, 0))), 2))
        self.assertEqual(stack_by(state, (("set", N, 0, False),) * 2, "first"), (((), (("group", ()), ("back", N, 0))), 1))
        self.assertEqual(stack_by(state, (("tell", N),), "first"), (((), (("group", ()),)), 0))

    def test_ways_of_keeping(self):
        source = random.Random(47)
        counts = {"unlike": 0, "fell": 0}
        for _ in range(1500):
            state = random_state(source, source.choice((1, 2, 4)), great=2)
            deeds = random_deeds(source, 14)
            while done_slowly(state, deeds) is None:
                deeds = deeds[:-1]
            found = {}
            for way in ("each", "first"):
                stack, most, groups = stack_slowly(state, deeds, way)
                found[way] = stack_by(state, deeds, way)
                self.assertEqual(found[way], (stack, most), (state, deeds, way))
                self.assertEqual(state_told(stack), groups)
                counts["fell"] += most > sum(entry[0] == "back" for entry in stack[1])
            self.assertGreaterEqual(found["each"][1], found["first"][1])
            counts["unlike"] += found["each"] != found["first"]
        self.assertGreater(min(counts.values()), 200, counts)

    def test_great_stacks(self):
        full = (("group", ()),) + tuple(("back", (sort, figure), number) for number in range(20) for sort in ("num", "len") for figure in "01234567")[:299]
        self.assertEqual(len(full), 300)
        self.assertEqual(len(state_told(((), full))), 2)
        every = tuple(sorted((sort, figure) for sort in ("num", "len") for figure in "01234567"))
        state = tuple((tuple((key, 1 + (at + number) % 2) for number, key in enumerate(every)), ()) for at in range(100))
        stack = least_stack(state)
        self.assertEqual(len(stack[1]), 99 + 99 * 16)
        self.assertEqual(stack_by(state, (), "each"), (stack, 99 * 16))
        self.assertEqual(stack_by(state, (END,) * 60 + (), "first")[0], least_stack(state[:40]))
        # The stack may tell more than a state lets, further on.
        self.assertEqual(len(stack_by(EMPTY * 100, (BEGIN,) * 60, "each")[0][1]), 159)
        self.assertEqual(stack_by(((((N, 10 ** 12),), ()),), (("more", N, 9, False),), "each"), ((((N, 10 ** 12 + 9),), ()), 0))


if __name__ == "__main__":
    unittest.main()
