"""Runs: what is got, worked out and done, how runs end, and what they tell."""

import unittest

from settlepages.kinds import is_text
from settlepages.runs import brought_of, events_of, parting_lines, read_of, run_cut, run_of, state_of
from tests.run_cases import CASES, MOST
from tests.texts import random_answers, random_texts

S = ("space", 0, 0, 0, 0, 0)


def signs(text):
    return tuple(("sign", sign) for sign in text)


def thing_in_short(thing):
    if thing == S:
        return "_"
    return thing[1] if thing[0] == "sign" else repr(thing).replace("'", '"')


def in_short(end, steps):
    """Write the end of a run as tests/run_cases.py does."""
    if end == ("more",):
        return f"{steps} more"
    if end[0] == "done":
        told = "done: " + " ".join(thing_in_short(thing) for thing in end[1])
    else:
        rows = " | ".join(" ".join(thing_in_short(thing) for thing in row) for row in end[3])
        told = f"{end[1]} at {end[2]}: {rows}"
    return f"{steps} {told}".strip()


class Ends(unittest.TestCase):
    def test_cases(self):
        for text, answers, told in CASES:
            self.assertEqual(in_short(*run_of(text, answers, MOST)), told, (text, answers))

    def test_shape_of_ends(self):
        self.assertEqual(run_of("", (), 0), (("done", ()), 0))
        self.assertEqual(run_of(";\n", (), 0), (("done", ()), 0))
        self.assertEqual(run_of("a\n", (), 0), (("more",), 0))
        self.assertEqual(run_of("a)\n", (), 9), (("error", "extra", 2, (signs("a"),)), 2))
        self.assertEqual(run_of("!box(a(b!x\n", (), 9), (("error", "unknown", 10, ((), signs("ab"))), 5))
        self.assertEqual(run_of("!mark(a)\n", (), 9)[0], ("done", (("mark", ((5, "a"),)), S)))
        self.assertEqual(run_of("!box()\n", (), 9)[0], ("done", (("box", ()), S)))

    def test_steps_that_are_let(self):
        endless = "!rule!f(!f)!f\n"
        self.assertEqual(run_of(endless, (), 2000), (("more",), 2000))
        for most in range(6):
            self.assertEqual(run_of("a!kern5 b\n", (), most)[1], min(most, 4))
        self.assertEqual(run_of("a!kern5 b\n", (), 3), (("more",), 3))
        self.assertEqual(run_of("a!kern5 b\n", (), 4), (("done", signs("a") + (("kern", 5),) + signs("b") + (S,)), 4))
        # Steps within others count, too.
        self.assertEqual(run_of("!num0 7 !kern!text!num0;\n", (), 2), (("more",), 2))
        self.assertEqual(run_of("!num0 7 !kern!text!num0;\n", (), 3), (("done", (("kern", 7),)), 3))

    def test_long_texts_and_numbers(self):
        self.assertEqual(run_of("a" * 399 + "\n", (), 2000), (("done", signs("a" * 399) + (S,)), 400))
        self.assertEqual(run_of("!kern" + "9" * 300 + "a\n", (), 9), (("error", "number", 306, ((),)), 1))
        self.assertEqual(run_of("!kern" + "0" * 300 + "7 \n", (), 9), (("done", (("kern", 7),)), 1))
        self.assertEqual(run_of("\n" * 400, (), 2000), (("done", (("par",),) * 400), 400))

    def test_forty_answers(self):
        frees = "!free!endtest" * 30 + "\n"
        self.assertEqual(run_of(frees, (True,) * 40, 99), (("done", ()), 60))
        rule = "!rule!g(!free!endtest)" + "!g " * 40 + "!free b!else c!endtest\n"
        self.assertEqual(run_of(rule, (True,) * 40, 2000)[0], ("done", signs("c")))
        self.assertEqual(state_of("a\n", (True, False) * 20, 9)[3], (True, False) * 20)
        self.assertEqual(state_of("!free!endtest\n", (True, False) * 20, 9)[3], (False, True) * 19 + (False,))

    def test_texts_of_any_length_behind_one_another(self):
        long = "a" * 399 + "\n"
        self.assertEqual(run_cut(long, long, (), 2000), (("done", (signs("a" * 399) + (S,)) * 2), 800))
        self.assertIsNone(parting_lines(long, (), 2000))
        self.assertIsNotNone(parting_lines("a" * 393 + "!kern" + ";\n", (), 2000))
        self.assertIsNotNone(parting_lines("a" * 392 + "!kern5" + ";\n", (), 2000))

    def test_forty_within_each_other(self):
        text = "!let!e!everywhere" + "!e" * 39 + "!num0 7 !text!num0\n"
        self.assertEqual(run_of(text, (), 99), (("done", signs("7") + (S,)), 44))
        text = "!let!e!everywhere" + "!e" * 40 + "!num0 7 !text!num0\n"
        self.assertEqual(run_of(text, (), 99), (("error", "deep", len("!let!e!everywhere") + 84, ((),)), 42))
        self.assertEqual(events_of(text, (), 99)[-1], (42, 101, ("do", ("name", "num"))))
        self.assertEqual(run_of("!equal" * 40 + "\n", (), 99)[0][1], "ends")
        self.assertEqual(run_of("!equal" * 41 + "\n", (), 99), (("error", "deep", 246, ((),)), 41))
        self.assertEqual(run_of("!equal" * 41 + "\n", (), 40), (("more",), 40))
        # One behind the other, not within, they may be as many as wanted.
        self.assertEqual(run_of("!rule!g()" + "!g" * 60 + " a\n", (), 99)[0], ("done", signs("a") + (S,)))

    def test_tokens_that_wait(self):
        text = "!rule!a$1(" + "$1" * 10 + ")!a(" + "x" * 100 + ")\n"
        self.assertEqual(run_of(text, (), 2000), (("done", signs("x" * 1000) + (S,)), 1003))
        text = "!rule!a$1(" + "$1" * 11 + ")!a(" + "x" * 91 + ")\n"
        self.assertEqual(run_of(text, (), 2000), (("error", "full", len(text) - 1, ((),)), 2))
        # The first token is put ahead of a thousand that wait already.
        text = "!rule!a$1(" + "$1" * 10 + ")!first z!a(" + "x" * 100 + ")\n"
        self.assertEqual(run_of(text, (), 2000), (("error", "full", len(text) - 1, ((),)), 3))
        # Kept tokens are put ahead, too.
        keep = "!rule!k$1(!after$1!after$1)!rule!m$1(!k$1!k$1!k$1!k$1!k$1)"
        text = keep + "!rule!a$1(" + "$1" * 10 + ")(" + "!m z" + ")\n"
        self.assertEqual(run_of(text, (), 2000)[0], ("done", signs("z" * 10) + (S,)))

    def test_kept_tokens_that_are_too_many(self):
        text = "!rule!k$1(!after$1!after$1)(" + "!k z)!rule!a$1(" + "$1" * 10 + ")\n"
        self.assertEqual(run_of(text, (), 99)[0], ("done", signs("zz") + (S,)))
        text = "!rule!a$1(" + "$1" * 10 + ")(!after x!after x!a(" + "y" * 99 + "))\n"
        self.assertEqual(run_of(text, (), 2000)[0], ("done", signs("y" * 990 + "xx") + (S,)))
        # A end within tokens that wait: 999 wait, and two are put ahead.
        text = "!kind!y2!kind!q1!rule!a$1$2($1" + "$2" * 10 + ")(!after x!after x!a)(" + "z" * 100 + ")\n"
        self.assertEqual(run_of(text, (), 2000)[0][1], "argument")
        text = "!let!e)!rule!a$1$2($1" + "$2" * 9 + ")(!after x!after x!a!e(" + "z" * 111 + ")\n"
        self.assertEqual(run_of(text, (), 2000), (("error", "full", len(text) - 1, ((),)), 7))
        text = "!let!e)!rule!a$1$2($1" + "$2" * 9 + ")(!after x!a!e(" + "z" * 111 + ")\n"
        self.assertEqual(run_of(text, (), 2000), (("done", signs("x" + "z" * 999) + (S,)), 1007))

    def test_long_rows(self):
        rule = "!rule!a$1($1$1$1$1)"
        row = (("mark", ((5, "x"),) * 400),)
        self.assertEqual(run_of(rule + "!mark(!a(" + "x" * 100 + "));\n", (), 9)[0], ("done", row))
        text = rule + "!mark(x!a(" + "x" * 100 + "));\n"
        self.assertEqual(run_of(text, (), 9)[0], ("error", "full", len(text) - 3, ((),)))
        text = "!rule!a$1(!row0($1$1$1$1))!a(" + "x" * 100 + ")!mark(!text!row0);\n"
        self.assertEqual(run_of(text, (), 9)[0], ("done", row))
        self.assertEqual(run_of(text.replace("!row0($1", "!row0(x$1"), (), 9)[0][1], "full")
        # A begin that is left out, and its end, belong to the row.
        text = "!rule!a$1(!row0($1$1$1$1($1)))!a(" + "x" * 80 + ")!mark(!text!row0)\n"
        self.assertEqual(len(run_of(text.replace("$1$1$1$1(", "$1$1$1("), (), 9)[0][1][0][1]), 322)
        text = "!rule!a$1(!row0($1$1$1($1)))!a(" + "x" * 99 + ");\n"
        self.assertEqual(run_of(text, (), 9)[0], ("done", ()))
        self.assertEqual(run_of(text.replace("!row0(", "!row0(!x!y!z"), (), 9)[0][1], "full")

    def test_long_arguments(self):
        # An argument up to a token has no greatest length of its own.
        rule = "!rule!b$1.(!mark())!rule!a$1(!b$1$1$1$1$1.)"
        self.assertEqual(run_of(rule + "!a(" + "x" * 100 + ")\n", (), 99), (("done", (("mark", ()), S)), 6))
        rule = "!rule!b$1(!mark())!rule!a$1(!b($1$1$1$1$1))"
        self.assertEqual(run_of(rule + "!a(" + "x" * 80 + ");\n", (), 99)[0], ("done", (("mark", ()),)))
        self.assertEqual(run_of(rule + "!a(" + "x" * 81 + ");\n", (), 99)[0][1], "full")

    def test_bounds_of_numbers(self):
        top = 10 ** 9
        for text, told in (
            (f"!num1 {top} !more!num1-{top} !text!num1;\n", signs("0")),
            (f"!num1-{top} !more!num1 {top} !text!num1;\n", signs("0")),
            (f"!num1 {top - 1} !more!num1 1 !kern!num1;\n", (("kern", top),)),
            (f"!len1-{top - 1} !more!len1-1 !kern!len1;\n", (("kern", -top),)),
            (f"!num1-{top} !kern-!num1;\n", (("kern", top),)),
            (f"!space {top}-{top} 0 {top} 2 ;\n", (("space", top, -top, 0, top, 2),)),
        ):
            self.assertEqual(run_of(text, (), 99)[0], ("done", told), text)

    def test_more_steps_tell_the_same(self):
        texts = random_texts(1, 400, 12)
        for text, answers in zip(texts, random_answers(1, 400, 5)):
            whole = run_of(text, answers, 1500)
            for most in (0, 3, 17):
                told = run_of(text, answers, most)
                if told[0] != ("more",):
                    self.assertEqual(told, whole, text)
                else:
                    self.assertEqual(told[1], most)
                    self.assertGreater(whole[1] + (whole[0] == ("more",)), most)


class Braces(unittest.TestCase):
    def test_what_is_set_within_braces(self):
        text = "(!num0 1 !len3 2 !row4(a)!kind!q3!let!x a!rule~(b)!kind!;6)!mark(!text!num0!text!len3!text!row4);\n"
        row = ((6, "0"), (6, "0"))
        self.assertEqual(run_of(text, (), 99)[0], ("done", (("mark", row),)))
        backs = [event for _, _, event in events_of(text, (), 99) if event[0] == "back"]
        self.assertEqual(backs, [
            ("back", ("alone", "~")), ("back", ("kind", ";")), ("back", ("kind", "q")), ("back", ("len", "3")),
            ("back", ("name", "x")), ("back", ("num", "0")), ("back", ("row", "4")),
        ])

    def test_everything_set_everywhere(self):
        text = (
            "((!everywhere!num0 1 !everywhere!len3 2 !everywhere!row4(a)!everywhere!kind!q3!everywhere!let!x a"
            "!everywhere!rule~(b)!everywhere!made!m(!text!num0)!everywhere!more!num0 4 ))!text!num0!text!len3;\n"
        )
        self.assertEqual(run_of(text, (), 99)[0], ("done", signs("52")))
        events = [event for _, _, event in events_of(text, (), 99) if event[0] in ("set", "back")]
        self.assertEqual(events, [
            ("set", ("num", "0"), 1, True), ("set", ("len", "3"), 2, True), ("set", ("row", "4"), ((5, "a"),), True),
            ("set", ("kind", "q"), 3, True), ("set", ("name", "x"), ("token", (5, "a")), True),
            ("set", ("alone", "~"), ("rule", (), ((5, "b"),)), True),
            ("set", ("name", "m"), ("rule", (), ((6, "1"),)), True), ("set", ("num", "0"), 5, True),
        ])
        state = state_of(text, (), 99)
        self.assertEqual(state[0], (("text", (
            (("alone", "~"), ("rule", (), ((5, "b"),))), (("kind", "q"), 3), (("len", "3"), 2),
            (("name", "m"), ("rule", (), ((6, "1"),))), (("name", "x"), ("token", (5, "a"))), (("num", "0"), 5),
            (("row", "4"), ((5, "a"),)),
        ), ()),))

    def test_values_as_at_the_beginning_are_not_told(self):
        text = "!num0 1 !num0 0 !row1(a)!row1()!kind!q4!kind!q5!let!x a!let!x!y!let!par a!let!par!q;\n"
        self.assertEqual(state_of(text, (), 99)[0], (("text", ((("name", "par"), None),), ()),))
        text = "!let!p!par!let!par a!let!par!p;\n"
        self.assertEqual(state_of(text, (), 99)[0], (("text", ((("name", "p"), ("word", "par")),), ()),))

    def test_wide_ahead_of_a_value_of_a_level(self):
        text = "(!num0 3 (!everywhere!num0 4 )!text!num0)!text!num0;\n"
        self.assertEqual(run_of(text, (), 99)[0], ("done", signs("44")))
        text = "(!num0 3 (!num0 5 !everywhere!more!num0 1 ;\n"
        self.assertEqual([level[1] for level in state_of(text, (), 99)[0]], [((("num", "0"), 6),)] * 3)


class Events(unittest.TestCase):
    def test_all_events_of_a_text(self):
        text = "!rule!f$1(!after$1)!box(!kind!q4!f a)b\n"
        self.assertEqual(events_of(text, (), 99), [
            (1, 5, ("do", ("name", "rule"))),
            (1, 19, ("set", ("name", "f"), ("rule", (None,), (("name", "after"), 0)), False)),
            (2, 23, ("do", ("name", "box"))), (2, 24, ("level", "box")),
            (3, 29, ("do", ("name", "kind"))), (3, 32, ("set", ("kind", "q"), 4, False)),
            (4, 34, ("work", ("name", "f"))),
            (5, 36, ("do", ("name", "after"))), (5, 36, ("keep", (5, "a"))),
            (6, 37, ("do", (2, ")"))), (6, 37, ("left", "box")), (6, 37, ("back", ("kind", "q"))),
            (6, 37, ("come", ("box", ()))),
            (7, 37, ("do", (5, "a"))), (7, 37, ("come", ("sign", "a"))),
            (8, 38, ("do", (5, "b"))), (8, 38, ("come", ("sign", "b"))),
            (9, 39, ("do", (4, " "))), (9, 39, ("come", S)),
        ])

    def test_events_within_others(self):
        self.assertEqual(events_of("!everywhere !num0!text!kind!a\n", (), 99), [
            (1, 11, ("do", ("name", "everywhere"))), (2, 16, ("do", ("name", "num"))),
            (3, 22, ("work", ("name", "text"))), (3, 30, ("set", ("num", "0"), 5, True)),
        ])

    def test_events_of_all_things(self):
        text = "a \n\n!kern1 !place2 !space1 2 0 3 1 !mark(b)\n"
        come = [event for event in events_of(text, (), 99) if event[2][0] == "come"]
        self.assertEqual(come, [
            (1, 1, ("come", ("sign", "a"))), (2, 2, ("come", S)), (3, 4, ("come", ("par",))),
            (4, 11, ("come", ("kern", 1))), (5, 19, ("come", ("place", 2))),
            (6, 35, ("come", ("space", 1, 2, 0, 3, 1))), (7, 43, ("come", ("mark", ((5, "b"),)))),
            (8, 44, ("come", S)),
        ])

    def test_events_up_to_an_error(self):
        self.assertEqual(events_of("a!x b\n", (), 99), [
            (1, 1, ("do", (5, "a"))), (1, 1, ("come", ("sign", "a"))), (2, 3, ("do", ("name", "x"))),
        ])
        self.assertEqual(events_of("ab\n", (), 1), [(1, 1, ("do", (5, "a"))), (1, 1, ("come", ("sign", "a")))])
        self.assertEqual(events_of("!after a\n", (), 9), [(1, 6, ("do", ("name", "after")))])

    def test_one_event_for_each_step(self):
        for text, answers in zip(random_texts(2, 300, 12), random_answers(2, 300, 5)):
            events = events_of(text, answers, 300)
            steps = run_of(text, answers, 300)[1]
            begun = [step for step, _, event in events if event[0] in ("work", "do")]
            self.assertEqual(begun, list(range(1, steps + 1)), text)
            self.assertEqual([event[:2] for event in events], sorted([event[:2] for event in events]), text)
            self.assertEqual(len(brought_of(text, answers, 300)), steps)


class Brought(unittest.TestCase):
    def test_steps_that_tokens_bear(self):
        for text, told in (
            ("ab\n", [-1, -1, -1]),
            ("!num0 12 !text!num0a\n", [-1, -1, 1, 1, -1, -1]),
            ("!row0(x)!text!row0\n", [-1, -1, 1, -1]),
            ("!rule!f$1(y$1)!f a\n", [-1, -1, 1, 1, -1]),
            ("(!after a)b\n", [-1, -1, -1, 2, -1, -1]),
            ("!rule!x()!word x!endword a\n", [-1, -1, 1, -1, -1]),
            ("!rule!f(x)!first a!f\n", [-1, -1, -1, -1, 2]),
            ("!first ab\n", [-1, -1, -1, -1]),
            ("!rule!f(x)!rule!g(!f)!g\n", [-1, -1, -1, 2, 3]),
            ("!kern5a\n", [-1, -1, -1]),
            ("!rule!f(5a)!kern!f\n", [-1, -1, -1, 2]),
            ("!everywhere!num0 5 a\n", [-1, -1, -1, -1]),
        ):
            self.assertEqual(brought_of(text, (), 99), told, text)


class Reads(unittest.TestCase):
    def test_tokens_that_are_cut(self):
        self.assertEqual(read_of("!kind!a4ba\n", (), 99), [
            (("name", "kind"), 0, 5), (("name", "a"), 5, 7), ((6, "4"), 7, 8), ((5, "b"), 8, 9), ((4, " "), 9, 10),
        ])
        self.assertEqual(read_of("a !free b!endtest;c\n\n", (), 99), [
            ((5, "a"), 0, 1), ((4, " "), 1, 2), (("name", "free"), 2, 7), ((5, "b"), 8, 9), (("name", "endtest"), 9, 17),
            (("name", "par"), 20, 21),
        ])
        # Tokens that are put ahead are not cut again, and a token that is not done any more is cut, too.
        self.assertEqual(read_of("!rule!f(x)!f!f\n", (), 99)[4:], [((2, ")"), 9, 10), (("name", "f"), 10, 12), (("name", "f"), 12, 14)])
        self.assertEqual(read_of("ab\n", (), 1), [((5, "a"), 0, 1), ((5, "b"), 1, 2)])
        self.assertEqual(read_of("a!stop b\n", (), 9), [((5, "a"), 0, 1), (("name", "stop"), 1, 6)])
        self.assertEqual(read_of("", (), 9), [])


class States(unittest.TestCase):
    def test_states(self):
        for text, answers, told in (
            ("", (), ((("text", (), ()),), ((),), (), (), 0, False)),
            ("a\n", (True,), ((("text", (), ()),), (signs("a") + (S,),), (), (True,), 2, False)),
            ("!free(!after a!free!else!box(b;\n", (True, False, True), (
                (("text", (), ()), ("brace", (), ((5, "a"),)), ("box", (), ())), ((), signs("b")), (False, True), (True,),
                32, False,
            )),
            ("!kern!num0;\n", (), ((("text", (), ()),), ((("kern", 0),),), (), (), 12, False)),
            ("!kern5;\n", (), ((("text", (), ()),), ((("kern", 5),),), (), (), 8, True)),
            ("!kern5 ;\n", (), ((("text", (), ()),), ((("kern", 5),),), (), (), 9, False)),
        ):
            self.assertEqual(state_of(text, answers, 99), told, text)

    def test_no_states(self):
        for text in ("a!stop\n", "a)\n", "!kern\n", "!x\n", "!rule!f(!f)!f\n"):
            self.assertIsNone(state_of(text, (), 99), text)
        self.assertIsNone(state_of("ab\n", (), 2))
        self.assertIsNotNone(state_of("ab\n", (), 3))
        self.assertIsNotNone(state_of("(\n", (), 3))

    def test_texts_run_with_states(self):
        for first, other, answers, told in (
            ("(!num1=5 a;\n", "!text!num1)!text!num1;\n", (), ("done", signs("a50"))),
            ("!box(a;\n", "b)c;\n", (), ("done", (("box", signs("ab")),) + signs("c"))),
            ("!free a;\n", "b!else c!endtest d;\n", (True,), ("done", signs("abd"))),
            ("!free a!else b;\n", "c!endtest d;\n", (False,), ("done", signs("bcd"))),
            ("!free a!else b;\n", "c!else\n", (False,), ("error", "test", 22, (signs("bc"),))),
            ("!kind!q4!rule!f(x);\n", "aq!f;\n", (), ("done", signs("a") + (S,) + signs("x"))),
            ("(!after a;\n", ")b)\n", (), ("error", "extra", 14, (signs("ab"),))),
            ("!free a!endtest;\n", "!free b!endtest;\n", (True, True), ("done", signs("ab"))),
            ("!free a!endtest;\n", "!free b!endtest;\n", (False, True), ("done", signs("b"))),
            ("a;\n", "\n", (), ("done", signs("a") + (("par",),))),
            ("a!stop\n", "b\n", (), ("done", signs("a"))),
            ("!x\n", "b\n", (), ("error", "unknown", 2, ((),))),
            ("(a;\n", "b\n", (), ("error", "open", 6, (signs("ab") + (S,),))),
        ):
            self.assertEqual(run_cut(first, other, answers, 99)[0], told, (first, other))

    def test_steps_with_states(self):
        self.assertEqual(run_cut("ab\n", "c\n", (), 99), (("done", signs("ab") + (S,) + signs("c") + (S,)), 5))
        self.assertEqual(run_cut("ab\n", "c\n", (), 4), (("more",), 4))
        self.assertEqual(run_cut("ab\n", "c\n", (), 2), (("more",), 2))
        self.assertEqual(run_cut("ab\n", "", (), 3), (("done", signs("ab") + (S,)), 3))

    def test_parting_lines(self):
        for text in ("", "a\n", "(a\n", "!stop!kern5;\n", "a)\n", "!kern5 ;\n", "!free a\n", "!kern!num0;\n", "!x!kern5;\n"):
            self.assertIsNone(parting_lines(text, (True,), 99), text)
        self.assertIsNone(parting_lines("!rule!f(!f)!f\n", (), 99))
        self.assertIsNone(parting_lines("a!kern5;\n", (), 1))
        for text in (
            "!kern5;\n", "!kern\n", "!free a\n", "!place99999;\n", "!space1 2;\n", "!rule!f(\n", "!num0 5;\n",
            "!equal 5;\n", "!less 1 5!equal 1 1 ;\n", "!less 3 2;\n", "(!kern5;\n", "!box(!kern0;\n", "!first a;\n",
            "!more!num0 5;\n", "!everywhere!num0 5;\n", "!less 1 2;\n", "!free!kern5;\n",
        ):
            other = parting_lines(text, (), 99)
            self.assertIsNotNone(other, text)
            self.assertNotEqual(run_cut(text, other, (), 2000)[0], run_of(text + other, (), 2000)[0], text)

    def check_open_number(self, text):
        state = state_of(text, (), 300)
        self.assertTrue(state is None or state[5] is True, text)
        other = parting_lines(text, (), 300)
        self.assertIs(is_text(other), True, text)
        self.assertNotEqual(run_cut(text, other, (), 2000)[0], run_of(text + other, (), 2000)[0], text)

    def test_parting_lines_of_the_open_numbers_of_all_words(self):
        words = (
            "!num1=", "!len2 ", "!more!num0 ", "!more!len7", "!kern", "!place", "!space 1 2 0 3 ", "!equal 0 ",
            "!less-5 ", "!less 1 ", "!everywhere!num3=", "!everywhere!more!num1 ", "(!kern", "!box(!num0",
            "!first a!first!endtest!equal 0 ", "!kern!first 3!equal 0 ", "!num1=!first 3!less 0 ",
        )
        for word in words:
            for number in ("0", "00", "7", "-3", "--0", "1000000000", "9" * 10, "-1234567890", "5" * 11):
                self.check_open_number(word + number + ";\n")
                self.check_open_number("ab" + word + number + ";c\n")

    def test_parting_lines_of_an_open_number_with_more_behind_it(self):
        for test in (
            "!equal 0 0", "!equal-1 -1", "!less 1 2", "!less 1 1000000000", "!less-9 -1", "!less 0 9999999999",
            "!less 3 2", "!less -1 0",
        ):
            for behind in (
                "!first!stop", "!first!endtest!first!stop", "!first!stop!first!endtest", "!first)", "!first!x",
                "!first!else", "!first a!first!endtest", "!first!endtest!first!par", "!first 3", "!kern!first 3",
                "!rule!f(!stop)!first!endtest!first!f", "(!first)!first!endtest!first!stop",
                "!box(a!first)!first!endtest!first!stop", "!rule!f(!stop)(!after!f!first)!first!endtest",
            ):
                self.check_open_number(behind + test + ";\n")

    def test_parting_lines_where_no_word_can_be_called(self):
        for text in (
            "!let!else a!first!endtest!first!stop!less 1 2;\n",
            "!let!e!endtest!let!s!stop!let!else!x!let!endtest!x!let!stop!x!first!e!first!s!less 1 2;\n",
            "!kind!&0&kind&!5&first&endtest&first&stop&less 1 2;\n",
            "!kind!&0&kind&!8&let&else&x&first&endtest&first&stop&equal 0 0;\n",
        ):
            self.assertEqual(run_of(text, (), 300)[0], ("done", ()), text)
            self.check_open_number(text)

    def test_first_lines_tell_what_the_whole_text_tells(self):
        firsts = random_texts(3, 600, 9, 200)
        others = random_texts(4, 600, 6, 200)
        for first, other, answers in zip(firsts, others, random_answers(3, 600, 6)):
            if run_of(first, answers, 2000)[0] == ("more",):
                continue
            parting = parting_lines(first, answers, 2000)
            if parting is None:
                self.assertEqual(run_cut(first, other, answers, 2000), run_of(first + other, answers, 2000), first)
            else:
                cut = run_cut(first, parting, answers, 2000)
                self.assertNotEqual(cut[0], run_of(first + parting, answers, 2000)[0], first)

    def test_returned_lists_are_new(self):
        for function in (events_of, brought_of, read_of):
            told = function("ab\n", (), 9)
            told.clear()
            self.assertEqual(len(function("ab\n", (), 9)), 6 if function is events_of else 3)


if __name__ == "__main__":
    unittest.main()
