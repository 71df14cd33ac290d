"""Rows that are worked out with values: against texts that set these, and bring a mark of the row."""

import itertools
import random
import unittest

from settlepages.cutting import cuts_of
from settlepages.earlyrules import rule_early, rule_late, unlike_use, use_codes
from settlepages.errors import Refused, TooMany
from settlepages.meanings import DONE_WORDS, WORKED_WORDS
from settlepages.rowcodes import code_told, is_row_code, least_code, needed_keys, unlike_case
from settlepages.rowworks import are_choices, are_values, changed_values, is_plain_row, row_worked
from settlepages.runs import events_of, run_of, state_of
from tests.odd import ODD, raised

SETTINGS = (
    "!num0=5 ", "!num1=-12 ", "!num7 0 ", "!len0 3 ", "!len2=-4 ", "!row0(ab)", "!row1(!text!num0 c)", "!row2(!f)", "!kind!q6",
    "!kind!z9", "!kind!&7", "!rule!f(ab)", "!rule!g$1($1$1)", "!rule!h$1.($1!text!num0 )", "!rule!i(!i)", "!let!x!num",
    "!let!y a", "!let!stop!par", "!let~!f", "!let!e!endword", "!let!equal!less", "!rule!k$1$2($2$1)", "!rule~(!k)", "!let!t!text",
)
FRAGMENTS = (
    "a", "b", "1", "2", "-", "~", "q", "&", "=", " ", ".", "(", ")", "$", "!f", "!g a", "!g(ab)", "!h ab.", "!i", "!x", "!y",
    "!k ab", "!k(a)(b)", "!text!num0 ", "!text!num1 ", "!text!row0 ", "!text!row2 ", "!text!kind!q", "!text!x1", "!t!num0 ",
    "!first ", "!first a!f", "!word ab!endword", "!word a!f!e", "!equal 1 1 ", "!equal!num0 5 ", "!less 1 2 ", "!less!num0!num1 ",
    "!alike ab", "!alike aa", "!meaning!x!num", "!kindis!q6", "!free ", "!else ", "!endtest ", "!equal 1 2 a!else b!endtest ",
    "!free a!else b!endtest ", "!less 2 1 a!endtest ", "!still!f", "!still)", "!still(", "!num", "!kern", "!stop ", "!endword", "!z",
    "!equal a", "!less 1!z", "!g)", "!h)", "!kindis!qx", "!equal 1999999999 1 ",
)
NUM, ROW = [("num", str(figure)) for figure in range(8)], [("row", str(figure)) for figure in range(8)]


def name(word):
    return ("name", word)


def letters(text):
    return tuple((5, letter) for letter in text)


def marked_row(settings, body, answers):
    """The end that a row comes to, by a text that sets the values, and brings a mark of the row."""
    text = settings + "!mark(" + body + ");\n"
    for _, _, event in events_of(text, answers, 2000):
        if event[0] == "come" and event[1][0] == "mark":
            return ("row", event[1][1])
    end = run_of(text, answers, 2000)[0]
    return end if end == ("more",) else end[:2]


def values_and_row(settings, body):
    """The values that a text sets, and the row that stands behind it, or None where its end is within a name."""
    state = state_of(settings + ";\n", (), 2000)
    values = state[0][0][1]
    table = tuple((key[1], value) for key, value in values if key[0] == "kind")
    tokens = [token for token, _, _ in cuts_of(table, "!mark(" + body + ");\n")]
    if tokens[:2] != [name("mark"), (1, "(")] or tokens[-1] != (2, ")"):
        return values, None
    return values, tuple(tokens[2:-1])


def random_settings(source):
    settings = "".join(source.sample(SETTINGS, source.randint(0, 6)))
    return settings if state_of(settings + ";\n", (), 2000) is not None else ""


class Rows(unittest.TestCase):
    def test_marks(self):
        source = random.Random(24)
        ends = {}
        for _ in range(4000):
            settings = random_settings(source)
            body = "".join(source.choice(FRAGMENTS) for _ in range(source.randint(0, 7)))
            answers = tuple(source.random() < 0.5 for _ in range(source.randint(0, 3)))
            values, row = values_and_row(settings, body)
            if row is None or len(row) > 60:
                continue
            self.assertIs(are_values(values), True, values)
            told = row_worked(values, row, answers)
            marked = marked_row(settings, body, answers)
            if told == ("more",):
                self.assertIn(marked[:2], (("more",), ("error", "full"), ("error", "deep")), (settings, body))
            else:
                self.assertEqual(told, marked, (settings, body, answers))
            ends[told[:1] if told[0] != "error" else told] = True
        words = {end[1] for end in ends if end[0] == "error"}
        self.assertTrue({("row",), ("more",)} <= set(ends))
        self.assertTrue({"ends", "number", "register", "argument", "test", "word"} <= words, words)

    def test_ends_of_rows(self):
        values = ((name("f"), ("rule", (), (name("f"),))), (("num", "0"), 7))
        for row, end in (
            ((), ("row", ())), (letters("a" * 60), ("row", letters("a" * 60))), ((name("f"),), ("more",)),
            (((2, ")"), (5, "a")), ("row", ())), (((1, "("),), ("error", "ends")), (((1, "("), (2, ")")), ("row", ((1, "("), (2, ")")))),
            ((name("text"), name("num"), (6, "0")), ("row", ((6, "7"),))), ((name("text"), name("num"), (6, "8")), ("error", "register")),
            ((name("text"), name("kind"), (5, "q")), ("error", "sign")), ((name("text"), name("kind"), name("q")), ("row", ((6, "5"),))),
            ((name("text"),), ("error", "register")), ((name("still"), name("f")), ("row", (name("f"),))),
            ((name("kern"), (4, " "), (6, "5")), ("row", (name("kern"), (4, " "), (6, "5")))), ((name("stop"),), ("row", (name("stop"),))),
            ((name("word"), (5, "a"), name("endword")), ("row", (name("a"),))), ((name("word"), name("endword")), ("error", "word")),
            ((name("equal"), (6, "1"), name("less")), ("error", "number")), ((name("endtest"),), ("error", "test")),
            ((name("free"), (5, "a"), name("endtest")), ("row", ())), ((name("word"),) + letters("a" * 21) + (name("endword"),), ("error", "word")),
            ((name("equal"),) * 41, ("error", "deep")), ((name("still"),), ("row", ())), ((name("still"), (2, ")"), (5, "a")), ("row", ())), ((name("equal"), (5, "x")), ("error", "number")),
            (((3, "$"), (7, "~"), (6, "\n"), (5, "1")), ("row", ((3, "$"), (7, "~"), (6, "\n"), (5, "1")))),
        ):
            self.assertEqual(row_worked(values, row, ()), end, row)
        self.assertEqual(row_worked((), (name("free"), (5, "a"), name("endtest")), (True,)), ("row", letters("a")))

    def test_two_hundred_steps(self):
        # Ten steps for each use of g, nine of which stand in its body; then single ones.
        values = ((name("e"), ("rule", (), ())), (name("g"), ("rule", (), (name("e"),) * 9)))
        for row, end in (
            ((name("g"),) * 20, ("row", ())), ((name("g"),) * 20 + (name("e"),), ("more",)), ((name("g"),) * 20 + (5 * (name("par"),)), ("row", (name("par"),) * 5)),
            ((name("g"),) * 19 + (name("e"),) * 10, ("row", ())), ((name("g"),) * 19 + (name("e"),) * 11, ("more",)),
        ):
            self.assertEqual(row_worked(values, row, ()), end)

    def test_long_rows(self):
        values = ((name("g"), ("rule", (None,), (0, 0))), (name("k"), ("rule", (), letters("x" * 50))))
        row = (name("g"), (1, "("), name("g"), (1, "("), name("g"), (1, "("), name("k"), (2, ")"), (2, ")"), (2, ")"))
        self.assertEqual(row_worked(values, row, ()), ("row", letters("x" * 400)))
        self.assertEqual(row_worked(values, row + ((5, "y"),), ()), ("error", "full"))
        # A body of 991 tokens, the end of the row, and what stands behind: at most 1000 may wait.
        body = (0,) * 49 + letters("x" * 11)
        values = ((name("m"), ("rule", (None,), body)), (name("s"), ("rule", (), ((2, ")"),))))
        row = (name("m"), (1, "("), name("s"), *letters("x" * 19), (2, ")"))
        self.assertEqual(row_worked(values, row + letters("y" * 8), ()), ("row", ()))
        self.assertEqual(row_worked(values, row + letters("y" * 9), ()), ("error", "full"))

    def test_arguments_and_other_errors(self):
        values = ((name("g"), ("rule", (None,), (0,))), (name("h"), ("rule", ((5, "x"),), (0,))))
        for row, end in (
            ((name("g"), (2, ")")), ("error", "argument")), ((name("g"),), ("error", "argument")), ((name("h"), (2, ")"), (5, "x")), ("error", "argument")),
            ((name("h"), (1, "("), (5, "x"), (2, ")"), (5, "x")), ("row", ((1, "("), (5, "x"), (2, ")")))), ((name("h"), (5, "a")), ("error", "argument")),
            ((name("h"), (1, "(")), ("error", "ends")), ((name("g"), (4, " "), (5, "b")), ("row", letters("b"))), ((name("kindis"), name("1")), ("error", "sign")),
            ((name("kindis"), name("q"), (5, "a")), ("error", "number")), ((name("equal"), (6, "1"), (4, " "), name("num"), (6, "9")), ("error", "register")),
            ((name("less"), (6, "-"), (6, "1"), (4, " "), (6, "0"), (5, "a"), name("endtest")), ("row", letters("a"))),
            ((name("equal"),) + ((6, "9"),) * 10 + ((4, " "), (6, "1")), ("error", "number")),
        ):
            self.assertEqual(row_worked(values, row, ()), end, row)


class ValuesAndChoices(unittest.TestCase):
    def test_values(self):
        rule = ("rule", (None, (5, "x")), ((5, "a"), 0, 1, name("f")))
        good = (
            (("kind", "a"), 0), (("kind", "~"), 9), (name("f"), rule), (name("\n"), ("token", (4, " "))), (name("1"), ("word", "stop")),
            (name("kern"), None), (name("kern"), ("word", "par")), (name("a" * 20), ("token", (6, "="))), (("alone", "~"), ("word", "num")),
            (("num", "7"), 10 ** 9), (("len", "0"), -(10 ** 9)), (("row", "3"), letters("a" * 60)), (name("g"), ("rule", (), ())),
            (name("g"), ("rule", ((1, "("), name("f"), (7, "~"), None), ((5, "a"),) * 60)), (("row", "0"), ((7, "~"),)),
        )
        bad = (
            (("kind", "a"), 5), (("kind", "a"), 10), (("kind", "a"), True), (("kind", "1"), 5), (("kind", "\n"), 4), (("kind", "ab"), 1),
            (name("f"), None), (name("kern"), ("word", "kern")), (name("f"), ("word", "f")), (name("f"), ("word", "nums")), (name(""), rule),
            (name("a" * 21), rule), (name("f"), ("token", (7, "~"))), (name("f"), ("token", name("f"))), (name("f"), ("token", (4, "a"))),
            (name("f"), ("token", (0, "!"))), (name("f"), ("rule", (None,) * 5, ())), (name("f"), ("rule", (None,), (1,))), (name("f"), ("rule", (), (0,))),
            (name("f"), ("rule", (None,), (True,))), (name("f"), ("rule", (None,), (-1,))), (name("f"), ("rule", (), ((5, "a"),) * 61)),
            (name("f"), ("rule", (0,), ())), (name("f"), ("rule", [], ())), (name("f"), ("rule", (), [])), (name("f"), ("rule", ())), (name("f"), ("rule", (), (), ())),
            (name("f"), ["word", "par"]), (name("f"), ("word",)), (name("f"), 5), (name("f"), ()), (name("f"), ("word", ("par",))), (("alone", "~"), None),
            (("alone", "ab"), rule), (("alone", ""), rule), (("num", "8"), 1), (("num", "0"), 0), (("num", "0"), 10 ** 9 + 1), (("num", "0"), True),
            (("num", 0), 1), (("num", ""), 1), (("num", "01"), 1), (("len", "0"), -(10 ** 9) - 1), (("row", "0"), ()), (("row", "0"), letters("a" * 61)),
            (("row", "0"), [(5, "a")]), (("row", "0"), ((0, "!"),)), (("rows", "0"), 1), (["num", "0"], 1), (("num", "0", 1), 1), (("num", "0"),), 5, "ab",
            (("num", "0"), "1"), (name("f\\"), rule), (name("f"), ("rule", (), (["a"],))), ((5, "a"), 1), ((None, None), None),
            (name("f"), ("tokens", (5, "a"))), (name("f"), ("word", "par", 1)), (name("f"), ("token", (5, "a"), 1)), (("kind", "a"), -1), (("num", ["0"]), 1),
            (("row", "0"), ((0, " "),)), (("row", "0"), ((8, " "),)), (name("f"), ("word",) * 4), ((["num"], "0"), 1),
        )
        for pair in good:
            self.assertIs(are_values((pair,)), True, pair)
            self.assertIs(are_values([pair]), False)
        for pair in bad:
            self.assertIs(are_values((pair,)), False, pair)
        self.assertIs(are_values(tuple(sorted(good[:3] + good[9:12]))), True)
        self.assertIs(are_values(((("num", "1"), 1), (("num", "0"), 1))), False)
        self.assertIs(are_values(((("num", "0"), 1), (("num", "0"), 2))), False)
        forty = tuple(sorted((name(a + b), ("word", "par")) for a in "abcdefgh" for b in "vwxyz"))
        self.assertIs(are_values(forty), True)
        self.assertIs(are_values(forty + ((("num", "0"), 1),)), False)
        self.assertIs(are_values(()), True)

    def test_plain_rows(self):
        for row in ((), ((5, "a"),) * 60, ((1, "\n"), (2, "1"), (3, " "), (4, " "), (5, "!"), (6, "a"), (7, ";"), name("a\n1"))):
            self.assertIs(is_plain_row(row), True, row)
        for row in (((5, "a"),) * 61, ((0, "a"),), ((8, "a"),), ((9, "\n"),), ((4, "a"),), ((True, "a"),), ((5, "ab"),), ((5, ""),), (0,), [(5, "a")],
                    ([5, "a"],), (name(""),), (name("a" * 21),), (("names", "a"),), ((5, "\\"),), (5, "a"), "a", (name(5),), ((5,),)):
            self.assertIs(is_plain_row(row), False, row)
        for value in ODD:
            for asks in (are_values, is_plain_row, are_choices):
                self.assertIs(asks(value), False, (asks, value))

    def test_choices(self):
        two = ((("num", "0"), (0, 1)), (("num", "1"), (5, -5)), (("num", "2"), (1, 2)))
        for choices in (
            (), two, ((("num", "0"), (0,)),), tuple((key, (0, 1, 2, 3)) for key in NUM[:4]), tuple((key, (0, 1)) for key in NUM[:6]),
            tuple((key, (0, 1, 2, 3)) for key in NUM[:4]) + tuple((key, ((),)) for key in ROW[:2]), ((name("kern"), (("word", "kern"), None)),),
            ((name("f"), (None, ("rule", (None,), (0,)))),), ((("kind", "a"), (5, 6)),), ((("row", "0"), ((), ((5, "a"),))),),
        ):
            self.assertIs(are_choices(choices), True, choices)
        for choices in (
            list(two), two[::-1], two[:1] * 2, ((("num", "0"), ()),), ((("num", "0"), (0, 1, 2, 3, 4)),), ((("num", "0"), (1, 1)),), ((("num", "0"), [0, 1]),),
            ((("num", "0"), (0, True)),), tuple((key, (0, 1, 2, 3)) for key in NUM[:4]) + ((("row", "0"), ((), ((5, "a"),))),), tuple((key, (0,)) for key in NUM[:7]),
            ((("num", "0"), (10 ** 9 + 1,)),), ((("kind", "1"), (6,)),), ((name("f"), (None, 5)),), (["a"],), ((("num", "0"),),), 5, ((("num", "9"), (0,)),),
            tuple((key, (0, 1, 2)) for key in NUM[:6]), ((("num", "0"), (0, 1), ()),),
        ):
            self.assertIs(are_choices(choices), False, choices)

    def test_changed_values(self):
        values = (((name("kern"), None)), (("num", "0"), 3), (("row", "1"), letters("a")))
        choices = ((("kind", "a"), (5, 6)), (name("kern"), (("word", "kern"), ("word", "par"), None)), (("num", "0"), (0, 3)))
        for case, told in (
            ((0, 0, 0), values[2:]), ((1, 0, 0), ((("kind", "a"), 6),) + values[2:]), ((0, 1, 1), ((name("kern"), ("word", "par")),) + values[1:]),
            ((0, 2, 1), values), ((1, 2, 1), ((("kind", "a"), 6),) + values),
        ):
            self.assertEqual(changed_values(values, choices, case), told, case)
        many = tuple(sorted((name(a + b), ("word", "par")) for a in "abcdefgh" for b in "vwxyz"))
        self.assertEqual(len(changed_values(many, choices, (1, 1, 1))), 43)


def all_cases(choices):
    return list(itertools.product(*[range(len(options)) for _, options in choices]))


def code_slowly(choices, ends, begun=()):
    """The least code as a tree, told by what it asks: an end, or a pair of a key and of such ones."""
    if len(begun) == len(choices):
        return ends[begun]
    rest = [code_slowly(choices, ends, begun + (at,)) for at in range(len(choices[len(begun)][1]))]
    return rest[0] if all(one == rest[0] for one in rest) else (choices[len(begun)][0], tuple(rest))


def tree_of(code, at):
    line = code[at]
    return line[1] if line[0] == "end" else (line[1], tuple(tree_of(code, one) for one in line[2]))


def lines_left(code, at, seen):
    """The lines in the order in which they are left, from one on."""
    if at not in seen:
        if code[at][0] == "ask":
            for one in code[at][2]:
                lines_left(code, one, seen)
        seen.append(at)
    return seen


OPTIONS = (
    (("num", "0"), (0, 3, 4, -1)), (("num", "1"), (0, 1, 5)), (("row", "0"), ((), ((5, "a"),), ((5, "b"), (5, "c")))), (("kind", "q"), (5, 6)),
    (name("f"), (None, ("rule", (), ((5, "x"),)), ("rule", (), ((5, "a"),)), ("word", "par"))), (name("g"), (("rule", (None,), (0, 0)), ("rule", (None,), (0,)))),
    (("alone", "~"), (None, ("rule", (), ((5, "a"),)))), (name("else"), (("word", "else"), None)), (name("par"), (("word", "par"), ("rule", (), (name("f"),)))),
)
BODIES = FRAGMENTS[:28] + ("!equal!num0 3 a!else b!endtest ", "!less!num1!num0 !f!else!g a!endtest ", "!f!f", "!g~", "!text!row0 ", "!kindis!q6 a!endtest ",
                           "!meaning!f!par x!else y!endtest ", "!equal!num0!num1 !text!num0 !endtest ")


def random_choices(source):
    while True:
        picked = sorted(source.sample(OPTIONS, source.randint(0, 5)))
        choices = tuple((key, tuple(source.sample(options, source.randint(1, len(options))))) for key, options in picked)
        if are_choices(choices):
            return choices


def random_row(source):
    text = "".join(source.choice(BODIES) for _ in range(source.randint(0, 5)))
    return values_and_row("", text)[1]


class Codes(unittest.TestCase):
    def test_codes(self):
        source = random.Random(26)
        sizes, asked = set(), set()
        for _ in range(400):
            choices, row = random_choices(source), random_row(source)
            if row is None or len(row) > 60:
                continue
            answers = tuple(source.random() < 0.5 for _ in range(source.randint(0, 2)))
            values = ((("num", "1"), 3),) if source.random() < 0.5 else ()
            self.check_code(values, choices, row, answers, sizes)
            asked.update(needed_keys(values, choices, row))
            other = random_row(source)
            if other is not None and len(other) <= 60:
                self.check_rows(values, choices, row, other)
        self.assertGreater(len(sizes), 8)
        self.assertGreater(len(asked), 6)

    def check_code(self, values, choices, row, answers, sizes):
        ends = {case: row_worked(changed_values(values, choices, case), row, answers) for case in all_cases(choices)}
        code = least_code(values, choices, row, answers)
        self.assertIs(is_row_code(choices, code), True, code)
        for case, end in ends.items():
            self.assertEqual(code_told(choices, code, case), end, (code, case))
        self.assertEqual(tree_of(code, len(code) - 1), code_slowly(choices, ends), code)
        self.assertEqual(len(set(code)), len(code))
        self.assertEqual(lines_left(code, len(code) - 1, []), list(range(len(code))), code)
        sizes.add(len(code))
        if answers == ():
            keys = []
            for at, (key, options) in enumerate(choices):
                if any(ends[case] != ends[case[:at] + (other,) + case[at + 1:]] for case in ends for other in range(len(options))):
                    keys.append(key)
            self.assertEqual(needed_keys(values, choices, row), keys)

    def check_rows(self, values, choices, row, other):
        cases = [case for case in all_cases(choices) if len({row_worked(changed_values(values, choices, case), one, ()) for one in (row, other)}) == 2]
        told = unlike_case(values, choices, row, other)
        self.assertEqual(told is None, not cases)
        self.assertTrue(told is None or told in cases)
        self.assertEqual(least_code(values, choices, row, ()) == least_code(values, choices, other, ()), not cases)
        self.assertIsNone(unlike_case(values, choices, row, row))

    def test_most_lines(self):
        choices = tuple((key, (0, 1, 2, 3)) for key in NUM[:4])
        row = tuple(token for key in NUM[:4] for token in (name("text"), name("num"), (6, key[1])))
        code = least_code((), choices, row, ())
        self.assertEqual(len(code), 341)
        self.assertEqual(code[:2], tuple(("end", ("row", ((6, "0"),) * 3 + ((6, last),))) for last in "01"))
        self.assertEqual(code[4], ("ask", ("num", "3"), (0, 1, 2, 3)))
        self.assertEqual(code_told(choices, code, (3, 2, 1, 0)), ("row", ((6, "3"), (6, "2"), (6, "1"), (6, "0"))))
        self.assertEqual(needed_keys((), choices, row), NUM[:4])
        six = tuple((key, (0, 1)) for key in NUM[:6])
        self.assertEqual(least_code((), six, (), ()), (("end", ("row", ())),))
        # Which of six registers stand at 1 does not matter as such: lines are shared.
        row = tuple(token for key in NUM[:6] for token in (name("equal"), name("num"), (6, key[1]), (6, "1"), (5, "x"), name("endtest")))
        code = least_code((), six, row, ())
        self.assertEqual([line[0] for line in code].count("end"), 7)
        self.assertEqual(len(code), 28)

    def test_what_is_a_code(self):
        choices = ((("num", "0"), (0, 1)), (("row", "0"), ((), ((5, "a"),), ((5, "b"),))))
        end = ("end", ("row", ()))
        first, second = ("num", "0"), ("row", "0")
        for code in (
            (end,), (end,) * 600, (("end", ("more",)),), (("end", ("error", "a")),), (("end", ("error", "z" * 20)),), (("end", ("row", ((5, "a"),) * 400)),),
            (end, ("ask", first, (0, 0))), (end, end, ("ask", second, (1, 0, 1)), ("ask", first, (2, 2)), ("ask", first, (3, 0))),
            (end, ("ask", second, (0, 0, 0)), end), (("end", ("row", (name("a" * 20), (7, "1"), (6, "\n")))),),
        ):
            self.assertIs(is_row_code(choices, code), True, code)
        for code in (
            (), [end], (end,) * 601, (("end", ("more", 1)),), (("end", ["more"]),), (("end", ("error", "")),), (("end", ("error", "z" * 21)),),
            (("end", ("error", "Z")),), (("end", ("error", 5)),), (("end", ("row", ((5, "a"),) * 401)),), (("end", ("row", ((0, "!"),))),), (("end", ("row", [])),),
            (("end", "more"),), (("end",),), (("end", ("row", ()), 1),), (["end", ("row", ())],), (("ask", first, (0, 0)),), (end, ("ask", first, (0, 1))),
            (end, ("ask", first, (0,))), (end, ("ask", first, (0, 0, 0))), (end, ("ask", first, [0, 0])), (end, ("ask", first, (0, False))),
            (end, ("ask", first, (0, -1))), (end, ("ask", ("num", "1"), (0, 0))), (end, ("ask", ["num", "0"], (0, 0))), (end, ("ask", (["a"], "0"), (0, 0))),
            (end, ("asks", first, (0, 0))), (end, ("ask", first)), ("end",), (5,), (end, ("ask", None, (0, 0))), (("ends", ("row", ())),),
            (("end", ("errors", "a")),), (end, ("ask", ("num", ["0"]), (0, 0))),
        ):
            self.assertIs(is_row_code(choices, code), False, code)
        for value in ODD:
            self.assertIs(is_row_code(choices, value), False, value)
        # Codes that are not the least ones tell ends, too, in whatever order they ask.
        code = (end, ("end", ("more",)), ("ask", second, (0, 1, 0)), ("ask", first, (2, 1)), ("ask", second, (3, 3, 0)))
        for case, told in (((0, 0), end), ((0, 1), code[1]), ((1, 0), code[1]), ((1, 2), end)):
            self.assertEqual(code_told(choices, code, case), told[1])


class EarlyRules(unittest.TestCase):
    def check_uses(self, values, choices, uses):
        """Compare with rows that are worked out with the name meaning either rule; return whether all are the same."""
        early, late = rule_early(values, uses), rule_late(values, uses)
        self.assertEqual((early[:2], late[:2]), ((("rule", uses[1]),) * 2))
        ends = {}
        for index, row in enumerate(uses[3]):
            for case in all_cases(choices):
                told = []
                for rule in (early, late):
                    # A body of more than 60 tokens is none of values: so it is told by a text of its own.
                    changed = changed_values(values, choices, case) + ((name(uses[0]), rule),)
                    if len(rule[2]) > 60:
                        return None
                    told.append(row_worked(tuple(sorted(changed)), row, ()))
                ends[(index, case)] = told
        unlike = [found for found, told in ends.items() if told[0] != told[1]]
        told = unlike_use(values, choices, uses)
        self.assertEqual(told is None, not unlike, (values, choices, uses))
        self.assertTrue(told is None or told in unlike, told)
        codes = use_codes(values, choices, uses)
        self.assertIsInstance(codes, list)
        self.assertEqual(all(one == other for one, other in codes), not unlike)
        for (index, case), found in ends.items():
            self.assertEqual([code_told(choices, code, case) for code in codes[index]], found)
        return not unlike

    def test_uses(self):
        source = random.Random(27)
        counts = {}
        for _ in range(700):
            choices = tuple(pair for pair in random_choices(source) if pair[0] != name("r"))
            row = random_row(source)
            rows = tuple(random_row(source) for _ in range(source.randint(1, 3)))
            if row is None or len(row) > 60 or None in rows or max(map(len, rows)) > 50:
                continue
            rows = tuple(((5, "k"), name("r"), *one) for one in rows)
            ends = source.choice([(), (None,), ((5, "a"),), (None, None)])
            uses = ("r", ends, row + source.choice([(), ((3, "$"), (6, "1")), ((3, "$"), (3, "$"))]), rows)
            word = raised(rule_early, ((), uses)) or raised(rule_late, ((), uses))
            if word is not None:
                self.assertIs(word, Refused)
                self.assertIs(raised(unlike_use, ((), choices, uses)), Refused)
                self.assertIs(raised(use_codes, ((), choices, uses)), Refused)
                counts[word] = counts.get(word, 0) + 1
                continue
            alike = self.check_uses((), choices, uses)
            counts[alike] = counts.get(alike, 0) + 1
        self.assertGreater(min(counts[True], counts[False], counts[Refused]), 40, counts)

    def refusal(self, function, values, row, ends=(), choices=None):
        uses = ("r", ends, row, ((),))
        arguments = (values, uses) if choices is None else (values, choices, uses)
        with self.assertRaises(Refused) as caught:
            function(*arguments)
        return caught.exception.word

    def test_refusals(self):
        endless = ((name("f"), ("rule", (), (name("f"),))),)
        for values, row, ends, word in (
            ((), (name("endtest"),), (), "test"), ((), (name("text"), (5, "a")), (), "register"), (endless, (name("f"),), (), "more"),
            ((), ((3, "$"), (6, "1")), (), "rule"), ((), ((3, "$"), (6, "2")), (None,), "rule"), ((), ((3, "$"), (6, "0")), (None,), "rule"),
            ((), ((3, "$"),), (None,), "rule"), ((), (name("still"), name("equal")), (), "rule"), ((), ((1, "("),), (), "ends"),
            ((), (name("still"), name("else"), name("still"), name("endtest")), (), "rule"), ((), (name("word"), name("par")), (), "word"),
        ):
            self.assertEqual(self.refusal(rule_early, values, row, ends), word, row)
            self.assertEqual(self.refusal(unlike_use, values, row, ends, ()), word, row)
            self.assertEqual(self.refusal(use_codes, values, row, ends, ()), word, row)
        for values, row, ends, word in (
            ((), (name("endtest"),), (), "rule"), ((), (name("equal"),), (), "rule"), ((), (name("else"),), (), "rule"),
            ((), ((3, "$"), (6, "1")), (), "rule"), ((), ((3, "$"), (5, "a")), (None,), "rule"),
            ((), (name("free"), name("else"), name("else"), name("endtest")), (), "rule"), (((name("x"), ("word", "free")),), (name("x"),), (), "rule"),
        ):
            self.assertEqual(self.refusal(rule_late, values, row, ends), word, row)
        # This one is refused late alone: its parameter comes of a rule.
        values = ((name("d"), ("rule", (), ((6, "1"),))),)
        row = ((3, "$"), name("d"))
        self.assertEqual(rule_early(values, ("r", (None,), row, ((),))), ("rule", (None,), (0,)))
        self.assertEqual(self.refusal(rule_late, values, row, (None,)), "rule")
        self.assertEqual(self.refusal(unlike_use, values, row, (None,), ()), "rule")
        self.assertEqual(self.refusal(use_codes, values, row, (None,), ()), "rule")
        # Both refuse: the early one first.
        self.assertEqual(self.refusal(use_codes, (), (name("endtest"),), (), ()), "test")

    def test_bodies(self):
        one = ((3, "$"), (6, "1"))
        self.assertEqual(rule_late((), ("r", (None,), one + ((3, "$"), (3, "$"), (6, "1")), ((),))), ("rule", (None,), (0, (3, "$"), (6, "1"))))
        self.assertEqual(rule_late((), ("r", (), ((2, ")"), (1, "("), (2, ")")), ((),))), ("rule", (), ((2, ")"), (1, "("), (2, ")"))))
        self.assertEqual(rule_early((), ("r", (), ((5, "a"), (2, ")"), (5, "b")), ((),))), ("rule", (), ((5, "a"),)))
        long = (((name("g"), ("rule", (None,), (0, 0))), (name("k"), ("rule", (), letters("x" * 50)))))
        row = (name("g"), (1, "("), name("g"), (1, "("), name("g"), (1, "("), name("k"), (2, ")"), (2, ")"), (2, ")"))
        self.assertEqual(rule_early(long, ("r", (), row, ((),))), ("rule", (), letters("x" * 400)))
        self.assertIsNone(unlike_use(long, (), ("r", (), row, ((name("r"),),))))
        self.assertIsNone(unlike_use(long, (), ("r", (), row, ((), (name("r"), (5, "y"))))))
        self.assertEqual(len(use_codes(long, (), ("r", (), row, ((), (), (), (name("r"),))))), 4)
        # Late, the tests of the row are asked at each use; early, once.
        row = (name("less"), (6, "1"), (4, " "), name("num"), (6, "0"), (5, "a"), name("else"), (5, "b"), name("endtest"))
        choices = ((("num", "0"), (0, 2)),)
        uses = ("r", (), row, ((), (name("r"),)))
        self.assertEqual(unlike_use((), choices, uses), (1, (1,)))
        self.assertEqual(unlike_use(((("num", "0"), 5),), choices, uses), (1, (0,)))
        self.assertIsNone(unlike_use((), choices[:0], uses))
        self.assertEqual(use_codes((), choices, uses)[0], ((("end", ("row", ())),), (("end", ("row", ())),)))

    def test_names_of_rules(self):
        self.assertEqual(len(WORKED_WORDS) + len(DONE_WORDS), 30)
        self.assertEqual(rule_late((), ("\n1", (), (), ((),))), ("rule", (), ()))


if __name__ == "__main__":
    unittest.main()
