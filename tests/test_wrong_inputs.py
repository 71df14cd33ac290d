"""Wrong inputs: each error class, for each argument, in the order of the arguments."""

import unittest

from settlepages import aheads, alikeshapes, cutting, kinds, leasttexts, linecuts, moments, nearesttables
from settlepages import pairshapes, runs, tableparts, tokenrows
from settlepages.errors import (
    Endless, InvalidAnswers, InvalidIndex, InvalidMends, InvalidNumber, InvalidPairs, InvalidRow, InvalidSign,
    InvalidSigns, InvalidStanding, InvalidStops, InvalidTable, InvalidText, InvalidWord, TooMany, UnlikeLetters,
)
from tests.odd import ODD, check_wrong, raised
from tests.programs import WORDY, without_rows

BAD_TEXTS = (
    "a", "a\nb", "a" * 400 + "\n", "\n" * 401, chr(37) + "\n", "\\\n", "\t\n", "\x7f\n", "\r\n", "e\u0301\n", ("a\n",), 0,
)
BAD_TABLES = (
    (("a", 5),), (("!", 0),), (("a", 10),), (("a", -1),), (("a", True),), (("a", "6"),), (("1", 5),), (("\n", 8),),
    (("b", 6), ("a", 6)), (("a", 6), ("a", 7)), (("a", 6), ("a", 6)), (("ab", 6),), (("", 6),), (("\\", 5),),
    (["a", 6],), [("a", 6)], (("a", 6, 6),), (("a",),), ((6, "a"),), "a", (chr(37), 5), ((chr(37), 5),), {}, 3,
)
BAD_SIGNS_AT = ("", "aa", "\t", "\\", chr(37), "\u00e9", 5, ("a",))
BAD_SET_SIGNS = BAD_SIGNS_AT + ("\n", "0", "9")
BAD_ANSWERS = ((True,) * 41, (1,), (0, True), ("True",), (None,), [True], (True, (True,)), "", True, 0)
BAD_MOST = (2001, -1, True, False, "5", (5,), 10 ** 20, (), "", ())
BAD_ROWS = (
    ((5, "a"),) * 41, ((5, "ab"),), ((5, ""),), ((4, "a"),), ((0, "!"),), ((8, ";"),), ((9, "a"),), ((10, "a"),),
    ((True, "a"),), ((5, "1"),), ((5, "\n"),), ((6, "\n"),), (("name", ""),), (("name", "a1"),), (("name", "a\n"),),
    (("name", "a" * 21),), (("name", 5),), (("name", "a\\"),), ((5, "a", 1),), ((5,),), [(5, "a")], ([5, "a"],),
    (("nam", "a"),), ((5, "\\"),), ((-1, "a"),), ((None, "a"),), ("a",), 0, "", "a", (0,), ((5, 5),), (("name", ("a",)),),
)
BAD_SIGNS = (
    ("b", "a"), ("a", "a"), ("\n",), ("a", "\n"), ("ab",), ("",), ("\\",), (chr(37),), ["a"], "ab", (5,), "", 0, "a",
    tuple("abcdefghijklmnopqrstu"), ("\t",),
)
TEXT = "a\nb\n"
BAD_STOPS = ((0,), (1,), (3,), (4,), (5,), (2, 2), (2, 4), (-2,), (True,), ("2",), [2], 2, (2, 1), ((2,),), (2, None))
BAD_MENDS = ((4,), (-1,), (0, 0), (1, 0), (0, 4), (True,), (False,), (None,), ["1"], [1], 1, "", ("a",), ((1,),))
KERN, PUT = ("kern", 1), ("put", "a", 1, 1, 0)
BAD_PAIRS = (
    ("", ()), ("ba", ()), ("aa", ()), ("abcdefghi", ()), ("A", ()), ("a1", ()), (("a",), ()), ("ab", []), ["ab", ()],
    ("ab",), ("ab", (), ()), ("ab", (("a", "b", KERN), ("a", "b", PUT))), ("ab", (("", "", KERN),)),
    ("ab", (("c", "b", KERN),)), ("ab", (("a", "c", KERN),)), ("ab", (("ab", "b", KERN),)), ("ab", (["a", "b", KERN],)),
    ("ab", (("a", "b"),)), ("ab", (("a", "b", ("kern",)),)), ("ab", (("a", "b", ("kern", 100)),)),
    ("ab", (("a", "b", ("kern", -100)),)), ("ab", (("a", "b", ("kern", True)),)), ("ab", (("a", "b", ("kern", 1, 1)),)),
    ("ab", (("a", "b", ["kern", 1]),)), ("ab", (("a", "b", ("sign", 1)),)), ("ab", (("a", "b", ("put", "c", 1, 1, 0)),)),
    ("ab", (("a", "b", ("put", "", 1, 1, 0)),)), ("ab", (("a", "b", ("put", "ab", 1, 1, 0)),)),
    ("ab", (("a", "b", ("put", 5, 1, 1, 0)),)), ("ab", (("a", "b", ("put", ["a"], 1, 1, 0)),)),
    ("ab", (("a", "b", ("put", ("a",), 1, 1, 0)),)), ("ab", ((["a"], "b", KERN),)), ("ab", (("a", ("b",), KERN),)),
    ("ab", (("a", "b", ("put", "a", 2, 1, 0)),)), ("ab", (("a", "b", ("put", "a", 1, -1, 0)),)),
    ("ab", (("a", "b", ("put", "a", True, 1, 0)),)), ("ab", (("a", "b", ("put", "a", 1, 1, 3)),)),
    ("ab", (("a", "b", ("put", "a", 0, 0, 1)),)), ("ab", (("a", "b", ("put", "a", 1, 1, -1)),)),
    ("ab", (("a", "b", ("put", "a", 1, 1, False)),)), ("ab", (("", "b", ("put", "a", 0, 1, 0)),)),
    ("ab", (("a", "", ("put", "a", 1, 0, 0)),)), ("ab", (("a", "b", ("put", "a", 1, 1)),)), ("ab", ((5, "b", KERN),)),
    ("ab", (("a", "b", 5),)), ("ab", (("a", "b", ()),)), ("ab", (("a", "b", (5, 5)),)), ("ab", "ab"), "ab", 5,
    ("abcde", tuple([(one, two, KERN) for one in "abcde" for two in "abcde"])),
)
ENDLESS = ("ab", (("a", "b", ("put", "a", 1, 1, 0)), ("a", "a", ("put", "b", 1, 1, 0))))


class WrongInputs(unittest.TestCase):
    def test_kinds(self):
        check_wrong(self, kinds.kind_by, ((), "a"), (InvalidTable, InvalidSign), {0: BAD_TABLES, 1: BAD_SIGNS_AT})

    def test_any_value_may_be_asked(self):
        for value in ODD:
            for asks in (kinds.is_text, kinds.is_table, tokenrows.is_token_row, pairshapes.is_pairs):
                self.assertIs(asks(value), False, (asks.__name__, value))
        for asks, values in (
            (kinds.is_text, BAD_TEXTS), (kinds.is_table, BAD_TABLES), (tokenrows.is_token_row, BAD_ROWS),
            (pairshapes.is_pairs, BAD_PAIRS),
        ):
            for value in values:
                self.assertIs(asks(value), False, (asks.__name__, value))

    def test_cutting(self):
        check_wrong(
            self, cutting.cut_once, ((), "a\n", 0, "new"), (InvalidTable, InvalidText, InvalidIndex, InvalidStanding),
            {0: BAD_TABLES, 1: BAD_TEXTS, 2: (2, 3, "0", (0,)), 3: ("", "New", "news", 0, ("new",))},
        )
        check_wrong(self, cutting.cuts_of, ((), "a\n"), (InvalidTable, InvalidText), {0: BAD_TABLES, 1: BAD_TEXTS})
        self.assertIs(raised(cutting.cut_once, ((), "", 0, "new")), InvalidIndex)

    def test_runs(self):
        errors = (InvalidText, InvalidAnswers, InvalidNumber)
        wrong = {0: BAD_TEXTS, 1: BAD_ANSWERS, 2: BAD_MOST}
        for function in (
            runs.run_of, runs.events_of, runs.brought_of, runs.read_of, runs.state_of, runs.parting_lines,
        ):
            check_wrong(self, function, ("a\n", (), 9), errors, wrong)
        check_wrong(
            self, runs.run_cut, ("a\n", "b\n", (), 9), (InvalidText, InvalidText, InvalidAnswers, InvalidNumber),
            {0: BAD_TEXTS, 1: BAD_TEXTS, 2: BAD_ANSWERS, 3: BAD_MOST},
        )

    def test_token_rows(self):
        check_wrong(self, tokenrows.row_told, ((), "a\n"), (InvalidTable, InvalidText), {0: BAD_TABLES, 1: BAD_TEXTS})
        for function in (tokenrows.refused_at, leasttexts.least_text, nearesttables.nearest_table):
            check_wrong(self, function, ((), ((5, "a"),)), (InvalidTable, InvalidRow), {0: BAD_TABLES, 1: BAD_ROWS})

    def test_least_texts(self):
        check_wrong(self, leasttexts.plain_text, ((), "a\n"), (InvalidTable, InvalidText), {0: BAD_TABLES, 1: BAD_TEXTS})
        check_wrong(
            self, leasttexts.count_texts, ((), ((5, "a"),), ("a",), 3),
            (InvalidTable, InvalidRow, InvalidSigns, InvalidNumber),
            {0: BAD_TABLES, 1: BAD_ROWS, 2: BAD_SIGNS, 3: (41, "3", (3,), 10 ** 6, ())},
        )

    def test_least_text_too_long(self):
        row = (("name", "a" * 20),) * 20
        with self.assertRaises(TooMany) as caught:
            leasttexts.least_text((), row)
        self.assertEqual(caught.exception.limit, 400)
        self.assertIs(raised(leasttexts.least_text, (None, row)), InvalidTable)

    def test_table_parts(self):
        check_wrong(
            self, tableparts.parting_text, ((), (), ("a",)), (InvalidTable, InvalidTable, InvalidSigns),
            {0: BAD_TABLES, 1: BAD_TABLES, 2: BAD_SIGNS},
        )
        check_wrong(
            self, tableparts.kinds_let, ((), "a\n", "a"), (InvalidTable, InvalidText, InvalidSign),
            {0: BAD_TABLES, 1: BAD_TEXTS, 2: BAD_SET_SIGNS},
        )

    def test_nearest_tables(self):
        check_wrong(self, nearesttables.row_clash, (((5, "a"),),), (InvalidRow,), {0: BAD_ROWS})
        check_wrong(self, nearesttables.is_row_clash, (((5, "a"),), 1), (InvalidRow, None), {0: BAD_ROWS})

    def test_rows_of_too_many_signs(self):
        signs = [sign for sign in kinds.SIGNS if sign not in "\n0123456789"]
        many = tuple([("name", "".join(signs[at:at + 20])) for at in (0, 20)]) + ((6, signs[40]),)
        for call in (
            lambda row: nearesttables.nearest_table((), row), nearesttables.row_clash,
            lambda row: nearesttables.is_row_clash(row, None),
        ):
            with self.assertRaises(TooMany) as caught:
                call(many)
            self.assertEqual(caught.exception.limit, 40)
            self.assertIsNone(raised(call, (many[:2],)))
        self.assertIs(raised(nearesttables.nearest_table, (None, many)), InvalidTable)

    def test_moments_and_aheads(self):
        for function in (
            moments.moments_of, aheads.cut_ahead, aheads.parting_answers, linecuts.fewest_stops, linecuts.fewest_mends,
        ):
            check_wrong(self, function, ("a\n",), (InvalidText,), {0: BAD_TEXTS})

    def test_line_cuts(self):
        check_wrong(
            self, linecuts.unfit_answers, (TEXT, ()), (InvalidText, InvalidStops), {0: BAD_TEXTS, 1: BAD_STOPS},
        )
        for function in (linecuts.mended, linecuts.are_let):
            check_wrong(self, function, (TEXT, ()), (InvalidText, InvalidMends), {0: BAD_TEXTS, 1: BAD_MENDS})

    def test_pair_shapes(self):
        check_wrong(
            self, pairshapes.shape_of, (("cd", ()), "c"), (InvalidPairs, InvalidWord),
            {0: BAD_PAIRS, 1: ("", "a", "cde", "c" * 13, "C", ("c",), 5)},
        )
        for function in (pairshapes.endless_word, pairshapes.pairs_met, alikeshapes.idle_rows):
            check_wrong(self, function, (("ab", ()),), (InvalidPairs,), {0: BAD_PAIRS})

    def test_alike_shapes(self):
        good = ("ab", ())
        for function in (alikeshapes.unlike_word, alikeshapes.alike_paper):
            check_wrong(self, function, (good, good), (InvalidPairs, InvalidPairs), {0: BAD_PAIRS, 1: BAD_PAIRS})
        check_wrong(
            self, alikeshapes.is_alike_paper, (good, good, ()), (InvalidPairs, InvalidPairs, None),
            {0: BAD_PAIRS, 1: BAD_PAIRS},
        )

    def test_order_of_the_errors_of_programs(self):
        good, other = ("ab", ()), ("abc", ())
        long = without_rows(WORDY, (1, 7))
        for value in (pairshapes.pairs_met, alikeshapes.idle_rows):
            self.assertIs(raised(value, (ENDLESS,)), Endless)
            self.assertIs(raised(value, (long,)), TooMany)
        for function, rest in (
            (alikeshapes.unlike_word, ()), (alikeshapes.alike_paper, ()), (alikeshapes.is_alike_paper, (None,)),
        ):
            for first, second, error in (
                (None, ENDLESS, InvalidPairs), (ENDLESS, None, Endless), (long, None, TooMany), (long, ENDLESS, TooMany),
                (good, ENDLESS, Endless), (good, long, TooMany), (other, ENDLESS, Endless), (other, long, TooMany),
                (other, None, InvalidPairs), (other, good, UnlikeLetters), (good, other, UnlikeLetters),
                (good, good, None),
            ):
                self.assertIs(raised(function, (first, second, *rest)), error, (function.__name__, first, second))


if __name__ == "__main__":
    unittest.main()
