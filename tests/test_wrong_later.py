"""Wrong inputs of shapes, rows, codes, rules, paragraphs and routines: each error class, for each argument, in order."""

import unittest

from settlepages import alike, behind, earlyrules, handing, linedrops, linekeys, paragraphs, resting, routines
from settlepages import rowcodes, rowworks, shapecuts, shapefinds
from settlepages.errors import (
    Endless, InvalidAnswers, InvalidCase, InvalidChoices, InvalidCosts, InvalidKey, InvalidLetter, InvalidLot, InvalidMarks,
    InvalidNumber, InvalidPairs, InvalidParagraph, InvalidRoutine, InvalidRow, InvalidRowCode, InvalidStack, InvalidThings,
    InvalidUses, InvalidValues, InvalidWay, NeverRests, Refused, TooMany,
)
from tests.odd import check_wrong, raised
from tests.programs import WORDY, without_rows
from tests.test_wrong_inputs import BAD_ANSWERS, BAD_MOST, BAD_PAIRS, ENDLESS

GOOD = ("ab", (("a", "b", ("kern", 1)),))
LONG = without_rows(WORDY, (1, 7))
NUM0, NUM1 = ("num", "0"), ("num", "1")
BAD_LETTERS = ("", "c", "A", "aa", ("a",), 5, ["a"])
BAD_THINGS = (
    (("sign", "a"),) * 41, [("sign", "a")], (["sign", "a"],), (("sign", "A"),), (("sign", ""),), (("sign", "ab"),), (("sign", 5),), (("kern", 100),),
    (("kern", -100),), (("kern", True),), (("kern", "1"),), (("kern", None),), (("box", "a"),), (("box", 5),), (("sign",),), (("sign", "a", 1),), ("a",), 5, "", "sign",
    (("sign", ["a"]),), ((["sign"], "a"),),
)
BAD_VALUES = (
    ((NUM0, 0),), ((NUM1, 1), (NUM0, 1)), ((NUM0, 1), (NUM0, 1)), ((NUM0, True),), [(NUM0, 1)], ((NUM0, 10 ** 9 + 1),), ((("num", "8"), 1),), ((("kind", "1"), 5),),
    (NUM0, 1), 5, "", ((("name", "f"), None),), tuple((("name", a + b), ("word", "par")) for a in "abcdefg" for b in "abcdef")[:41],
)
BAD_PLAIN_ROWS = (((5, "a"),) * 61, ((0, "a"),), ((4, "a"),), (0,), [(5, "a")], ((5, "ab"),), (5, "a"), "", 5, (("name", ""),), ([5, "a"],))
BAD_CHOICES = (
    ((NUM0, ()),), ((NUM0, (1, 1)),), ((NUM0, (0, 1, 2, 3, 4)),), ((NUM1, (0, 1)), (NUM0, (0, 1))), ((NUM0, (0,)), (NUM0, (1,))), [(NUM0, (0, 1))], ((NUM0, [0, 1]),),
    tuple((("num", figure), (0,)) for figure in "0123456"), tuple((("num", figure), (0, 1, 2)) for figure in "012345"), 5, "", (NUM0, (0, 1)), ((NUM0, (0, False)),),
)
CHOICES = ((NUM0, (0, 1)), (NUM1, (5, 6, 7)))
BAD_CASES = ((), (0,), (0, 0, 0), (2, 0), (0, 3), (-1, 0), (True, 0), (0, False), [0, 0], ("0", 0), (0, None), 5, "", ((0, 0),))
END = ("end", ("row", ()))
BAD_CODES = ((), (END,) * 601, [END], (END, ("ask", NUM0, (0, 1))), (("ask", NUM0, (0, 0)),), (END, ("ask", NUM1, (0, 0))), END, 5, "", (END, ("ask", ("len", "0"), (0, 0))))
USES = ("f", (None,), ((5, "a"),), ((("name", "f"), (5, "b")),))
BAD_USES = (
    USES[:3], USES + (1,), list(USES), ("num", *USES[1:]), ("endtest", *USES[1:]), ("", *USES[1:]), ("f" * 21, *USES[1:]), ("\\", *USES[1:]), (5, *USES[1:]), (("f",), *USES[1:]),
    ("f", [None], *USES[2:]), ("f", (None,) * 5, *USES[2:]), ("f", (5,), *USES[2:]), ("f", None, *USES[2:]), ("f", ((0, "a"),), *USES[2:]), ("f", (), ((5, "a"),) * 61, USES[3]),
    ("f", (), [(5, "a")], USES[3]), ("f", (), (0,), USES[3]), ("f", (), (), ()), ("f", (), (), ((),) * 5), ("f", (), (), [()]), ("f", (), (), (((5, "a"),) * 61,)),
    ("f", (), (), ([],)), ("f", (), (), ((5, "a"),)), 5, "", "f",
)
COSTS = ((10,), 1, 0, 0, (0, 0))
PARAGRAPH = (("box", 5), ("place", 1, None, 0, 0, 0), ("place", None, 1, 0, 0, 0), ("end",))
BAD_PARAGRAPHS = ((("end",),) * 61, [("end",)], (["end"],), (("end", 0),), (("box", 1001),), (("gap", 0, 0),), (("place", None, None, 0, 0, 0),), 5, "", ("end",), ((),), ("box", 5))
BAD_COSTS = (((), 1, 0, 0, (0, 0)), ((10,), 1, 0, 0), list(COSTS), ((10,), 1, 0, 0, (0,)), ((9,), 1, 0, 0, (0, 0)), ((10,), 1001, 0, 0, (0, 0)), ((10,), 1, 0, True, (0, 0)), 5, "", ())
BAD_WAYS = (
    ((0, "plain"),), ((1, "marked"),), ((2, "plain"),), ((3, "plain"),), ((4, "plain"),), ((-1, "plain"),), ((True, "plain"),), ((2, "marked"), (1, "plain")),
    ((1, "plain"), (1, "plain")), [(1, "plain")], ([1, "plain"],), ((1,),), ((1, "plain", 0),), ((1, "Plain"),), ((1, None),), (1, "plain"), 5, "", (("1", "plain"),),
)
BAD_KEYS = ((9, True, True), (-1, True, True), (True, True, True), (None, 1, True), (None, True, 0), (None, True), (None, True, True, True), [None, True, True], ("0", True, True), 5, "", (), (None, None, True))
BAD_LOTS = ((("box", 5),), (("end",),), (("gap", 0, 0, 0),) * 21, [("gap", 0, 0, 0)], (["gap", 0, 0, 0],), (("gap", 1001, 0, 0),), (("place", None, None, 0, 0, 0),), ("gap", 0, 0, 0), 5, "", ((),))
STAY, REST = ((), (), 0), ((), (), -1)
QUIET, SPINNING = ((STAY, STAY, STAY, REST),), ((STAY,) * 4,)
BAD_ROUTINES = ((), ((STAY,) * 4,) * 7, ((STAY,) * 3,), [(STAY,) * 4], ((((3,), (), 0),) * 4,), ((((), (), 1),) * 4,), ((((), (), True),) * 4,), (STAY,) * 4, 5, "")
BAD_STACKS = ((3,), (-1,), (True,), (0,) * 61, [0], ("0",), 0, "", (None,), ((0,),))
BAD_MARKS = ((3,), (-1,), (False,), (0,) * 10, [0], ("0",), 0, "", (None,), ((0,),))


class WrongInputs(unittest.TestCase):
    def test_shapes(self):
        for function in (shapecuts.cut_pairs, shapefinds.felt_far, shapefinds.felt_words):
            check_wrong(self, function, (GOOD,), (InvalidPairs,), {0: BAD_PAIRS})
        check_wrong(
            self, shapecuts.uncut_words, (GOOD, "a", "b"), (InvalidPairs, InvalidLetter, InvalidLetter),
            {0: BAD_PAIRS, 1: BAD_LETTERS, 2: BAD_LETTERS},
        )
        check_wrong(self, shapefinds.word_for, (GOOD, ()), (InvalidPairs, InvalidThings), {0: BAD_PAIRS, 1: BAD_THINGS})
        for function, rest in ((shapecuts.cut_pairs, ()), (shapefinds.felt_far, ()), (shapefinds.felt_words, ()), (shapefinds.word_for, (None,)), (shapecuts.uncut_words, (None, None))):
            self.assertIs(raised(function, (ENDLESS, *rest)), Endless)
            self.assertIs(raised(function, (LONG, *rest)), TooMany)
        with self.assertRaises(TooMany) as caught:
            shapecuts.cut_pairs(LONG)
        self.assertEqual(caught.exception.limit, 40)
        self.assertIs(raised(shapefinds.felt_words, (("a", ()),)), InvalidLetter)
        self.assertIsNone(raised(shapefinds.felt_far, (("a", ()),)))
        endless = ("a", (("a", "a", ("put", "a", 1, 1, 0)),))
        self.assertIs(raised(shapefinds.felt_words, (endless,)), Endless)
        for things in ((("kern", -99), ("kern", 99)), (("sign", "z"),) * 40, ()):
            self.assertIsNone(raised(shapefinds.word_for, (GOOD, things)))

    def test_rows(self):
        check_wrong(
            self, rowworks.row_worked, ((), (), ()), (InvalidValues, InvalidRow, InvalidAnswers), {0: BAD_VALUES, 1: BAD_PLAIN_ROWS, 2: BAD_ANSWERS},
        )
        check_wrong(
            self, rowworks.changed_values, ((), CHOICES, (0, 0)), (InvalidValues, InvalidChoices, InvalidCase), {0: BAD_VALUES, 1: BAD_CHOICES, 2: BAD_CASES},
        )
        self.assertIs(raised(rowworks.changed_values, ((), (), (0,))), InvalidCase)
        self.assertIsNone(raised(rowworks.changed_values, ((), (), ())))

    def test_codes(self):
        check_wrong(
            self, rowcodes.least_code, ((), CHOICES, (), ()), (InvalidValues, InvalidChoices, InvalidRow, InvalidAnswers),
            {0: BAD_VALUES, 1: BAD_CHOICES, 2: BAD_PLAIN_ROWS, 3: BAD_ANSWERS},
        )
        check_wrong(self, rowcodes.is_row_code, (CHOICES, None), (InvalidChoices, None), {0: BAD_CHOICES})
        check_wrong(
            self, rowcodes.code_told, (CHOICES, (END,), (0, 0)), (InvalidChoices, InvalidRowCode, InvalidCase), {0: BAD_CHOICES, 1: BAD_CODES, 2: BAD_CASES},
        )
        check_wrong(
            self, rowcodes.unlike_case, ((), CHOICES, (), ()), (InvalidValues, InvalidChoices, InvalidRow, InvalidRow),
            {0: BAD_VALUES, 1: BAD_CHOICES, 2: BAD_PLAIN_ROWS, 3: BAD_PLAIN_ROWS},
        )
        check_wrong(
            self, rowcodes.needed_keys, ((), CHOICES, ()), (InvalidValues, InvalidChoices, InvalidRow), {0: BAD_VALUES, 1: BAD_CHOICES, 2: BAD_PLAIN_ROWS},
        )

    def test_early_rules(self):
        for function in (earlyrules.rule_early, earlyrules.rule_late):
            check_wrong(self, function, ((), USES), (InvalidValues, InvalidUses), {0: BAD_VALUES, 1: BAD_USES})
        for function in (earlyrules.unlike_use, earlyrules.use_codes):
            check_wrong(self, function, ((), CHOICES, USES), (InvalidValues, InvalidChoices, InvalidUses), {0: BAD_VALUES, 1: BAD_CHOICES, 2: BAD_USES})

    def test_names_that_are_keys(self):
        values = ((("name", "f"), ("word", "par")),)
        choices = ((("name", "f"), (None, ("word", "par"))),)
        refused = (USES[0], (), (("name", "endtest"),), USES[3])
        for function in (earlyrules.rule_early, earlyrules.rule_late):
            self.assertIs(raised(function, (values, USES)), InvalidUses)
            self.assertIs(raised(function, (values, refused)), InvalidUses)
            self.assertIsNone(raised(function, (((("alone", "f"), ("word", "par")),), USES)))
            self.assertIs(raised(function, ((), refused)), Refused)
        for function in (earlyrules.unlike_use, earlyrules.use_codes):
            for some, others in ((values, ()), ((), choices), (values, choices)):
                self.assertIs(raised(function, (some, others, USES)), InvalidUses)
                self.assertIs(raised(function, (some, others, refused)), InvalidUses)
            self.assertIs(raised(function, ((), (), refused)), Refused)
            self.assertIsNone(raised(function, ((), (), USES)))

    def test_paragraphs(self):
        for function in (paragraphs.least_way, paragraphs.price_paper, linedrops.dropping_way):
            check_wrong(self, function, (PARAGRAPH, COSTS), (InvalidParagraph, InvalidCosts), {0: BAD_PARAGRAPHS, 1: BAD_COSTS})
        check_wrong(self, paragraphs.is_price_paper, (PARAGRAPH, COSTS, None), (InvalidParagraph, InvalidCosts, None), {0: BAD_PARAGRAPHS, 1: BAD_COSTS})
        check_wrong(
            self, paragraphs.way_cost, (PARAGRAPH, COSTS, ()), (InvalidParagraph, InvalidCosts, InvalidWay), {0: BAD_PARAGRAPHS, 1: BAD_COSTS, 2: BAD_WAYS},
        )
        self.assertIs(raised(paragraphs.way_cost, ((("place", 0, 0, 0, 0, 0),), COSTS, ((-1, "plain"),))), InvalidWay)
        for way in ((), ((1, "plain"),), ((2, "marked"),), ((1, "plain"), (2, "marked"))):
            self.assertIsNone(raised(paragraphs.way_cost, (PARAGRAPH, COSTS, way)))

    def test_keys(self):
        for function in (linekeys.is_enough, linekeys.parting_paragraph):
            check_wrong(self, function, (COSTS, (None, True, True)), (InvalidCosts, InvalidKey), {0: BAD_COSTS, 1: BAD_KEYS})
        check_wrong(
            self, linekeys.key_way, (PARAGRAPH, COSTS, (0, False, False)), (InvalidParagraph, InvalidCosts, InvalidKey),
            {0: BAD_PARAGRAPHS, 1: BAD_COSTS, 2: BAD_KEYS},
        )
        for function in (linekeys.do_split, linekeys.parting_pair):
            check_wrong(self, function, (COSTS,), (InvalidCosts,), {0: BAD_COSTS})

    def test_lots(self):
        for function in (linedrops.is_safe, linedrops.dropped_pair):
            check_wrong(self, function, ((),), (InvalidLot,), {0: BAD_LOTS})
            self.assertIsNone(raised(function, ((("gap", 0, 0, 0),) * 20,)))

    def test_routines(self):
        check_wrong(
            self, routines.turned, (QUIET, (), 9), (InvalidRoutine, InvalidStack, InvalidNumber), {0: BAD_ROUTINES, 1: BAD_STACKS, 2: BAD_MOST},
        )
        check_wrong(self, routines.told_on, (QUIET, ()), (InvalidRoutine, InvalidStack), {0: BAD_ROUTINES, 1: BAD_STACKS})
        for function in (resting.pairs_told, resting.endless_stack, resting.rest_paper, handing.walk_of):
            check_wrong(self, function, (QUIET,), (InvalidRoutine,), {0: BAD_ROUTINES})
        check_wrong(self, resting.is_rest_paper, (QUIET, None), (InvalidRoutine, None), {0: BAD_ROUTINES})
        for function in (handing.handing_stack, handing.none_paper):
            check_wrong(self, function, (QUIET, ()), (InvalidRoutine, InvalidMarks), {0: BAD_ROUTINES, 1: BAD_MARKS})
        check_wrong(self, handing.is_none_paper, (QUIET, (), None), (InvalidRoutine, InvalidMarks, None), {0: BAD_ROUTINES, 1: BAD_MARKS})
        self.assertIsNone(raised(routines.told_on, (QUIET, (0,) * 60)))
        self.assertIsNone(raised(handing.handing_stack, (QUIET, (2,) * 9)))

    def test_two_routines(self):
        for function in (behind.endless_behind, alike.hand_out_alike, alike.parting_stack, alike.handed_paper):
            check_wrong(self, function, (QUIET, QUIET), (InvalidRoutine, InvalidRoutine), {0: BAD_ROUTINES, 1: BAD_ROUTINES})
        check_wrong(self, alike.is_handed_paper, (QUIET, QUIET, None), (InvalidRoutine, InvalidRoutine, None), {0: BAD_ROUTINES, 1: BAD_ROUTINES})
        check_wrong(
            self, behind.told_behind, (QUIET, QUIET, ()), (InvalidRoutine, InvalidRoutine, InvalidStack), {0: BAD_ROUTINES, 1: BAD_ROUTINES, 2: BAD_STACKS},
        )

    def test_what_must_rest_is_asked_behind_all_else(self):
        for function, arguments, error in (
            (handing.walk_of, (SPINNING,), NeverRests), (handing.handing_stack, (SPINNING, (3,)), InvalidMarks), (handing.handing_stack, (SPINNING, ()), NeverRests),
            (handing.is_none_paper, (SPINNING, None, None), InvalidMarks), (handing.none_paper, (SPINNING, (0,) * 10), InvalidMarks),
            (behind.told_behind, (SPINNING, None, ()), InvalidRoutine), (behind.told_behind, (SPINNING, QUIET, (3,)), InvalidStack),
            (behind.told_behind, (SPINNING, QUIET, ()), NeverRests), (behind.told_behind, (QUIET, SPINNING, ()), None), (behind.endless_behind, (SPINNING, None), InvalidRoutine),
            (behind.endless_behind, (SPINNING, QUIET), NeverRests), (behind.endless_behind, (QUIET, SPINNING), None), (alike.hand_out_alike, (SPINNING, None), InvalidRoutine),
            (alike.parting_stack, (QUIET, SPINNING), NeverRests), (alike.handed_paper, (SPINNING, ()), InvalidRoutine), (alike.is_handed_paper, (SPINNING, None, None), InvalidRoutine),
        ):
            self.assertIs(raised(function, arguments), error, (function, arguments))


if __name__ == "__main__":
    unittest.main()
