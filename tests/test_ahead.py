"""Moments, cuts ahead, stops and mends: fixed cases, and all short answers, stops and mends."""

import itertools
import random
import unittest

from settlepages.aheads import cut_ahead, parting_answers
from settlepages.errors import InvalidMends, InvalidStops, InvalidText, SettleError, TooMany
from settlepages.linecuts import are_let, fewest_mends, fewest_stops, mended, unfit_answers
from settlepages.moments import moments_of
from tests.odd import raised
from tests.spy import all_answers, do_part, line_starts, spied, told_unmended
from tests.texts import random_text

FIRST = (0, "new", (), (("text", (), ()),), ())
FRAGMENTS = (
    "!free ", "!else ", "!endtest ", "!kind!q4", "!kind!q6", "!kind!q8", "!kind!;6", "!kind!;4", "!kind!;9",
    "!kind!;5", "!kind!q4 ", "(!kind!q4", ")q", "!kind!q0", "(!kind!;4", ")", "q", "q", "q a", "!q", "  ", ";", ";a",
    "\n", "\n", "\n", "(", ")", "!a", "!kind!a8", "!kind!a6", "!free!kind!q4!else!endtest ", "!rule!f(q)", "!f ",
    "!free!kind!q4!endtest ", "!free!kind!;6!endtest ", "!stop ", "!kern", "1", "!par ",
)
LINES = (
    "q", "a q", "!kind!q4", "!kind!q6", "(!kind!q4", "(!kind!q6", ")q", ")", "(", "q(!kind!q4)q", "(!kind!q6)q",
    "!kind!q8", "!kind!q9", "!free!kind!q4!endtest q", "!free(!else(!kind!q4!endtest ", ";q", "!qa", "q q", "!kind!;6",
    ";", ")q;", "(!kind!;6", "",
)


def limit_of(function, *arguments):
    """Return the limit of TooMany that a call raises, or None."""
    try:
        function(*arguments)
    except TooMany as error:
        return error.limit
    return None


def some_texts():
    """Texts of at most 79 signs with a few answers, which can be read ahead."""
    source = random.Random(31)
    texts = [random_text(source, FRAGMENTS, 7, source.choice((14, 20, 30))) for _ in range(260)]
    texts += ["\n".join(source.choice(LINES) for _ in range(source.randint(2, 5)))[:78] + "\n" for _ in range(200)]
    return [text for text in texts if text.count("!free") < 4 and limit_of(moments_of, text) is None]


TEXTS = some_texts()


class Moments(unittest.TestCase):
    def test_moments_that_are_told(self):
        level = (("text", (), ()),)
        for text, told in (
            ("", [FIRST]),
            ("\n", [FIRST, (1, "new", (), level, ())]),
            ("!stop a\n", [FIRST]), ("!x a\n", [FIRST]), ("!kern a\n", [FIRST]),
            ("a!stop b\n", [FIRST, (1, "within", (), level, ())]),
            ("!kern5;\n", [FIRST, (8, "new", (), level, ())]),
            ("!rule!f(xy)!f\n", [
                FIRST, (11, "within", (), (("text", ((("name", "f"), ("rule", (), ((5, "x"), (5, "y")))),), ()),), ()),
            ] + [
                (at, standing, waiting, (("text", ((("name", "f"), ("rule", (), ((5, "x"), (5, "y")))),), ()),), ())
                for at, standing, waiting in (
                    (13, "skip", ((5, "x"), (5, "y"))), (13, "skip", ((5, "y"),)), (13, "skip", ()),
                )
            ]),
            ("(!after a!num0 1 ;\n", [
                FIRST, (1, "within", (), (("text", (), ()), ("brace", (), ())), ()),
                (9, "within", (), (("text", (), ()), ("brace", (), ((5, "a"),))), ()),
                (17, "skip", (), (("text", (), ()), ("brace", ((("num", "0"), 1),), ((5, "a"),))), ()),
            ]),
            ("!box(a)b\n", [
                FIRST, (5, "within", (), (("text", (), ()), ("box", (), ())), ()),
                (6, "within", (), (("text", (), ()), ("box", (), ())), ()), (7, "within", (), level, ()),
                (8, "within", (), level, ()), (9, "new", (), level, ()),
            ]),
            ("!rule!f(!f)!f\n", [
                FIRST, (11, "within", (), (("text", ((("name", "f"), ("rule", (), (("name", "f"),))),), ()),), ()),
                (13, "skip", (("name", "f"),), (("text", ((("name", "f"), ("rule", (), (("name", "f"),))),), ()),), ()),
            ]),
        ):
            self.assertEqual(moments_of(text), told, text)

    def test_order(self):
        tests = [moment[4] for moment in moments_of("!free a!else b!endtest !free c!endtest;\n")]
        self.assertEqual(tests, [(), (True,), (False,), (True,), (False,), ()] + [()] * 0 + tests[6:])
        # Of one moment, those by earlier answers come first; False stands for an answer that is not there, too.
        text = "!equal!free 1!else 2!endtest!free 3!else 4!endtest 13 !else\n"
        indices = [moment[0] for moment in moments_of("!free!endtest!else a\n")]
        self.assertEqual(indices, [0, 13, 5])
        self.assertIsNone(limit_of(moments_of, text))
        told = moments_of("!num0!free1!else2!endtest!free3!else4!endtest;\n")
        numbers = [dict(moment[3][0][1]).get(("num", "0")) for moment in told[1:]]
        self.assertEqual(numbers, [24, 23, 14, 13])

    def test_against_all_short_answers(self):
        for text in TEXTS:
            told = moments_of(text)
            self.assertEqual(told[0], FIRST)
            self.assertEqual(len(told), len(set(map(repr, told))))
            first_turn = {}
            for answers in all_answers(text.count("!free") + 1):
                for turn, moment in enumerate(spied(text, answers).moments):
                    first_turn[repr(moment)] = min(turn, first_turn.get(repr(moment), turn))
            self.assertEqual(set(map(repr, told)), set(first_turn), text)
            turns = [first_turn[repr(moment)] for moment in told]
            self.assertEqual(turns, sorted(turns), text)

    def test_limits(self):
        functions = (moments_of, cut_ahead, parting_answers, fewest_stops, fewest_mends)
        for text, limit in (
            ("a" * 79 + "\n", None), ("a" * 80 + "\n", 80), ("\n" * 81, 80), ("\n" * 80, None),
            ("!rule!f(!f!f)!f\n", 200), ("!rule!f(!f)!f\n", None), ("!rule!f(!f)!kern!f\n", 200),
            ("!free" * 4 + "!endtest" * 4 + "\n", None),
        ):
            for function in functions:
                self.assertEqual(limit_of(function, text), limit, (function.__name__, text))
            self.assertEqual(limit_of(unfit_answers, text, ()), limit, text)
            self.assertEqual(limit_of(are_let, text, ()), limit, text)
            self.assertEqual(limit_of(mended, text, ()), 80 if limit == 80 else None, text)

    def test_limit_of_moments(self):
        # Each of these moments has one more token that waits: a rule that puts itself and a sign ahead.
        rows = "!rule!f(!f x)!f\n"
        self.assertEqual(limit_of(moments_of, rows), 200)
        # 2 moments ahead of the first working-out, and n signs: n + 4 in all.
        for many, limit in ((195, None), (197, None), (198, 200)):
            ten, rest = divmod(many, 10)
            text = "!rule!a$1(" + "$1" * 10 + ")!a(" + "x" * ten + ")" + "x" * rest + ";\n"
            found = limit_of(moments_of, text)
            self.assertEqual(found, limit, (many, len(text)))
            if limit is None:
                self.assertEqual(len(moments_of(text)), many + 3)

    def test_limit_of_steps_in_a_turn(self):
        # The first step is that of the word kern, each rule is one more, and so is its own one.
        for many, limit in ((59, None), (60, 200)):
            ten, rest = divmod(many - 1, 10)
            text = "!rule!n()!rule!a$1(" + "$1" * 10 + ")!kern!a(" + "!n" * ten + ")" + "!n" * rest + "5 \n"
            self.assertLessEqual(len(text), 80)
            self.assertEqual(limit_of(moments_of, text), limit, many)

    def test_limit_of_answers_in_a_turn(self):
        # Four tests that do not hold, or of which none is closed, ask for four answers in one turn.
        for many, limit in ((4, None), (5, 200)):
            text = "!kern" + "!free!endtest" * many + "5 \n"
            self.assertLessEqual(len(text), 80)
            self.assertEqual(limit_of(moments_of, text), limit, many)
            self.assertEqual(limit_of(cut_ahead, text), limit, many)

    def test_order_of_errors(self):
        long = "a" * 80 + "\n"
        endless = "!rule!f(!f!f)!f\n"
        for function, error in ((unfit_answers, InvalidStops), (mended, InvalidMends), (are_let, InvalidMends)):
            for text in (long, endless):
                self.assertIs(raised(function, (text, (99,))), error)
                self.assertIs(raised(function, (text, None)), error)
            self.assertIs(raised(function, (None, ())), InvalidText)
        self.assertIs(raised(mended, (endless, (0,))), None)
        self.assertEqual(limit_of(mended, long, (3,)), 80)

    def test_returned_list_is_new(self):
        moments_of("a\n").clear()
        self.assertEqual(len(moments_of("a\n")), 3)


class Aheads(unittest.TestCase):
    def test_fixed_texts(self):
        self.assertEqual(cut_ahead(""), ((None, 0, 0, "new"),))
        self.assertEqual(cut_ahead("!stop\n"), ((("name", "stop"), 0, 5, "skip"),))
        self.assertEqual(cut_ahead("!x a\n"), ((("name", "x"), 0, 2, "skip"),))
        # What is skipped is cut, too; a run that ends earlier does not part.
        told = cut_ahead("!free!stop!endtest a\n")
        self.assertEqual([piece[0] for piece in told], [
            ("name", "free"), ("name", "stop"), ("name", "endtest"), (5, "a"), (4, " "), None,
        ])
        # Where none came any more, it is told once, and a number that stands open asks for it, too.
        self.assertEqual(cut_ahead("!kern5;\n")[-2:], (((6, "5"), 5, 6, "within"), (None, 8, 8, "new")))
        self.assertEqual(cut_ahead("!kern\n")[-1], (None, 6, 6, "new"))
        self.assertEqual(cut_ahead("!rule!f(!f)!f\n")[-1], (("name", "f"), 11, 13, "skip"))

    def test_against_all_short_answers(self):
        parted = 0
        for text in TEXTS:
            runs = {answers: tuple(spied(text, answers).told_pieces) for answers in all_answers(text.count("!free") + 1)}
            parting = any(do_part(one, other) for one, other in itertools.combinations(runs.values(), 2))
            told, answers = cut_ahead(text), parting_answers(text)
            self.assertEqual((told is None, answers is not None), (parting, parting), text)
            if parting:
                parted += 1
                one, other = answers
                self.assertTrue(all(isinstance(answer, bool) for answer in one + other))
                self.assertTrue(do_part(spied(text, one).told_pieces, spied(text, other).told_pieces), text)
            else:
                self.assertEqual(told, max(runs.values(), key=len), text)
        self.assertGreater(parted, 20)


class Stops(unittest.TestCase):
    def test_fixed_texts(self):
        for text, told in (
            ("", ()), ("a\n", ()), ("\n\n\n", ()), ("!kind!q4\nq\nq\n", (9,)), ("!kind!q4\nq!kind!q6\nq\n", (9, 19)),
            ("(!kind!q4\n)q\n", ()), ("!kind!q4 q\n", None), ("!free!kind!q4!endtest\nq\n", (22,)),
            ("!kind!q8\n!kind!q9+q\nc\n", None), ("!kind!q9\n!kind!q8+q\nc\n", None), ("!kind!q9\n!kind!q8+q\n", None), ("!kind!q9\n!kind!q8\n+q\n", (9, 18)),
            ("q;\n" * 5 + "!kind!q4\nq\n", (24,)), ("!kind!q4\n;\n;\nq\n", (9,)),
        ):
            self.assertEqual(fewest_stops(text), told, text)

    def test_a_stop_more_can_be_one_too_many(self):
        text = "(!kind!q4\n)q\n"
        self.assertIsNone(unfit_answers(text, ()))
        self.assertEqual(unfit_answers(text, (10,)), ())

    def test_all_stops_of_short_texts(self):
        counts = {}
        for text in TEXTS:
            starts = line_starts(text)
            if len(starts) > 5:
                continue
            best = None
            rows = all_answers(text.count("!free") + 1)
            for many in range(len(starts) + 1):
                for stops in itertools.combinations(starts, many):
                    unfit = any(spied(text, answers, stops).unfit for answers in rows)
                    told = unfit_answers(text, stops)
                    self.assertEqual(told is not None, unfit, (text, stops))
                    if told is not None:
                        self.assertTrue(spied(text, told, stops).unfit, (text, stops, told))
                    elif best is None:
                        best = stops
            self.assertEqual(fewest_stops(text), best, text)
            counts[None if best is None else len(best)] = counts.get(None if best is None else len(best), 0) + 1
        for many in (None, 0, 1, 2):
            self.assertGreater(counts[many], 5, counts)

    def test_many_lines(self):
        text = "".join(f"!kind!{sign}4\n" for sign in "#&'*+,@") + "@,+*'&#\n"
        self.assertLessEqual(len(text), 80)
        self.assertEqual(fewest_stops(text), (63,))
        lines = "!kind!q4\nq\n!kind!q6\nq\n"
        self.assertEqual(fewest_stops(lines * 3), spied_fewest(lines * 3))


def spied_fewest(text):
    """The fewest stops of a text without answers, by trying all."""
    starts = line_starts(text)
    for many in range(len(starts) + 1):
        for stops in itertools.combinations(starts, many):
            if not spied(text, (), stops).unfit:
                return stops
    return None


class Mends(unittest.TestCase):
    def are_let_slowly(self, text, mends, rows):
        signs = mended(text, mends)
        return all(
            told_unmended(text, mends, spied(signs, answers).told_pieces) == spied(text, answers).told_pieces
            for answers in rows
        )

    def do_mend_slowly(self, text, mends, rows):
        signs = mended(text, mends)
        return not any(spied(signs, answers, line_starts(signs)).unfit for answers in rows)

    def test_mended(self):
        self.assertEqual(mended("", ()), "")
        self.assertEqual(mended("ab\n", ()), "ab\n")
        self.assertEqual(mended("ab\n", (2,)), "ab;\n\n")
        self.assertEqual(mended("a\nb\n", (0, 1, 2, 3)), ";\na;\n\n;\nb;\n\n")
        self.assertEqual(len(mended("a" * 79 + "\n", tuple(range(80)))), 240)

    def test_fixed_texts(self):
        for text, mends, told in (
            ("ab\n", (), True), ("ab\n", (0,), True), ("ab\n", (1,), True), ("ab\n", (2,), False), ("ab\n", (0, 1), True),
            ("!par\n", (1,), False), ("!par\n", (2,), False), ("!par\n", (4,), False), ("!par c\n", (4,), True),
            ("!ab\n", (3,), True), ("!par  c\n", (4, 5, 6), True), ("+ c\n", (1,), False), ("+ c\n", (2,), True),
            ("a;b\n", (1,), True), ("a;b\n", (2,), False), ("a;;\n", (2,), True), ("\n", (0,), True),
            ("!kind!;6a\n", (7,), True), ("!kind!;6a\n", (8,), False), ("!stop ab\n", (7,), True),
            ("!kind!;4!par  b\n", (12,), True), ("!kind!;4!par  b\n", (13,), True),
            ("!kind!;4!par  b\n", (12, 13), False), ("!kind!;4!par b\n", (13, 14), False),
            ("!kind!;5!par\n", (12,), False), ("!kind!;5!par c\n", (12,), False), ("!kind!;9!par c\n", (12,), True),
            ("!kind!;9!par c\n", (13,), True), ("!kind!;9!par c\n", (12, 13), False), ("!kind!;9+\n", (9,), False),
        ):
            self.assertEqual(are_let(text, mends), told, (text, mends))
        for text, told in (
            ("", ()), ("a\n", ()), ("!kind!q4q\n", None), ("!kind!q4aq\n", (8,)), ("!kind!q4 q\n", None),
            ("!kind!a6a!kind!a5a!kind!a6a\n", (8, 17, 26)), ("!kind!;6;\n", None), ("!kind!;6a\n", ()),
            ("(!kind!;6\n)q;\n", None), ("(!kind!;6)q;\n", ()), ("!kind!a6a\nb!kind!a5a\n", (8, 19)),
            ("!free!kind!a6!else!kind!b6!endtest ab\n", (26,)),
        ):
            self.assertEqual(fewest_mends(text), told, text)

    def test_all_mends_of_short_texts(self):
        source = random.Random(32)
        counts = {}
        for text in [text for text in TEXTS if len(text) <= 36]:
            rows = all_answers(text.count("!free") + 1)
            runs = {answers: spied(text, answers).told_pieces for answers in rows}
            most = 2 if len(text) <= 16 else 1
            best = None
            for many in range(most + 1):
                for mends in itertools.combinations(range(len(text)), many):
                    signs = mended(text, mends)
                    let = all(
                        told_unmended(text, mends, spied(signs, answers).told_pieces) == runs[answers]
                        for answers in rows
                    )
                    if source.random() < 0.3:
                        self.assertEqual(are_let(text, mends), let, (text, mends))
                    if let and best is None and self.do_mend_slowly(text, mends, rows):
                        best = mends
            told = fewest_mends(text)
            if best is not None:
                self.assertEqual(told, best, text)
            elif told is not None:
                self.assertGreater(len(told), most, text)
                self.assertTrue(self.are_let_slowly(text, told, rows), text)
                self.assertTrue(self.do_mend_slowly(text, told, rows), text)
            counts[None if told is None else len(told)] = counts.get(None if told is None else len(told), 0) + 1
        for many in (None, 0, 1):
            self.assertGreater(counts[many], 2, counts)

    def test_many_mends(self):
        text = "!kind!a6a!kind!a5a!kind!a6a\n"
        told = fewest_mends(text)
        self.assertEqual(told, (8, 17, 26))
        self.assertTrue(self.are_let_slowly(text, told, [()]))
        self.assertTrue(self.do_mend_slowly(text, told, [()]))
        for many in range(len(told)):
            for mends in itertools.combinations(range(len(text)), many):
                self.assertFalse(
                    self.are_let_slowly(text, mends, [()]) and self.do_mend_slowly(text, mends, [()]), (text, mends),
                )
        long = "!free" + "a" * 66 + "!endtest\n"
        self.assertEqual(fewest_mends(long), ())
        every = tuple(range(80))
        self.assertIs(are_let("a" * 79 + "\n", every), False)
        self.assertIs(are_let("a" * 79 + "\n", every[:79]), True)


class EveryIndex(unittest.TestCase):
    def test_stops_and_mends_that_can_stand(self):
        text = "a\n\nb;\nc\n"
        for index in range(-1, len(text) + 2):
            stop = 0 < index < len(text) and text[index - 1] == "\n"
            self.assertEqual(raised(unfit_answers, (text, (index,))), None if stop else InvalidStops, index)
            mend = 0 <= index < len(text)
            self.assertEqual(raised(are_let, (text, (index,))), None if mend else InvalidMends, index)
        self.assertIsNone(unfit_answers(text, (2, 3, 6)))
        self.assertTrue(issubclass(InvalidStops, SettleError))


if __name__ == "__main__":
    unittest.main()
