"""Wrong inputs of groups, strips, passages, walks, files and marks: each error class, for each argument, in order."""

import unittest

from settlepages import fileforms, groupforms, groupmoves, grouprows, groupstacks, lightfiles, movefiles, packing, sources
from settlepages import strips, taking, walks, widthrows
from settlepages.errors import (
    InvalidAnswers, InvalidDeeds, InvalidFile, InvalidIndex, InvalidMarks, InvalidNumber, InvalidPassage, InvalidSpot, InvalidStack, InvalidState, InvalidStep, InvalidStrip, InvalidText,
    InvalidWalk, InvalidWay, InvalidWidth, NoGroup, TooMany,
)
from tests.odd import ODD, check_wrong, raised
from tests.test_wrong_inputs import BAD_ANSWERS, BAD_MOST, BAD_TEXTS

N, M = ("num", "0"), ("num", "1")
DEEDS = (("begin",), ("set", N, 1, False), ("end",))
BAD_DEEDS = (
    (("begin",),) * 61, [("begin",)], (["begin"],), ("begin",), (("begin", 1),), (("set", N, 1),), (("set", N, True, False),), (("set", N, 10 ** 9 + 1, False),), (("set", ("row", "0"), 1, False),),
    (("more", N, 1, 0),), (("copy", N, N, False),), (("copy", N, 1, False),), (("tell", "num"),), (("after", (0, "a")),), (("after",),), (("put", "a"),), 5, "", "begin", ((),), (("tell", ("num", 0)),),
)
STATE = (((), ()), (((N, 1),), ((5, "a"),)))
BAD_STATES = (
    (), [((), ())], (((), ()),) * 101, (((), ((5, "a"),)),), ((((N, 0),), ()),), ((((N, True),), ()),), ((((N, 10 ** 12 + 1),), ()),), ((((M, 1), (N, 1)), ()),), (((), ()), ((), ((5, "a"),) * 61)), ((), ()), 5, "",
    ((((("row", "0"), 1),), ()),), (([], ()),), (((), []),), (((),),),
)
GROUP = ("group", ())
BAD_STACKS = (
    ((), (GROUP,) * 301), ((), [GROUP]), [(), ()], ((),), ((), (), ()), ((((N, 0),)), ()), (((N, 0),), ()), (((N, 10 ** 12 + 1),), ()), (((M, 1), (N, 1)), ()), ((), (("back", N, 1),)), ((), (("back", N, 1), GROUP)),
    ((), (("group",),)), ((), (("group", (), ()),)), ((), (("group", [(5, "a")]),)), ((), (("group", ((0, "a"),)),)), ((), (("group", ((5, "a"),) * 61),)), ((), (GROUP, ("back", N))), ((), (GROUP, ("back", N, 1, 1))),
    ((), (GROUP, ("back", N, True))), ((), (GROUP, ("back", N, "1"))), ((), (GROUP, ("back", ("row", "0"), 1))), ((), (GROUP, ("back", N, 10 ** 12 + 1))), ((), (GROUP, ("back", N, -10 ** 12 - 1), GROUP)), ((), (GROUP,) * 100),
    ((), (["group", ()],)), ((), ("group", ())), ((), (("begin", ()),)), 5, "", ((), (GROUP, ())), ((), (GROUP, (N, 1))), ([], ()), ((N, 1), ()),
    # None of these shows in the state that is told.
    ((), (GROUP,) + (("back", N, 0),) * 300), ((), (GROUP, ("back", N, False))), ((), (GROUP, ("back", N, 5), ("back", N, True))), ((), (GROUP, ("back", N, 5), ("back", N, "1"))),
    ((), (GROUP, ("back", ("row", "0"), 0))), ((), (GROUP, ("back", "num", 0))), ((), (GROUP, ("back", ["num", "0"], 0))), ((), (GROUP, ("give", N, 0))), ((), (GROUP, (None, N, 0))), ((), (GROUP, ("back", N, 0, 0))),
    ((), (GROUP, ("group",))), ((), (GROUP, ())), ((), (GROUP, ["back", N, 0])),
)
STRIP = (("sign", "a"), ("space", 1, 2, 0, 1, 0), ("box", (("sign", "b"),)))
BAD_STRIPS = (
    (("sign", "a"),) * 61, [("sign", "a")], ("sign", "a"), (["sign", "a"],), (("sign", "ab"),), (("kern", 10 ** 6 + 1),), (("place", True),), (("space", 0, 0, 0, 0),), (("space", 0, 101, 0, 0, 0),), (("box", None),),
    (("mark", ()),), (("par",),), 5, "", ((),), (("space", 0, 100, 0, 0, 0),) * 4, (("box", (("box", (("box", (("box", (("box", (("box", (("box", ()),)),)),)),)),)),)),),
)
PASSAGE = (("sign", "a"), ("place", 0), ("sign", "b"), ("place", 0))
BAD_PASSAGES = (*BAD_STRIPS, (), STRIP, (("place", 0), ("sign", "a")), (("place", 0),) * 11, (("box", (("place", 0),)),))
BAD_WIDTHS = (10 ** 9 + 1, -10 ** 9 - 1, True, False, "5", None, (5,), 10 ** 119)
BAD_MUCH = (11, -1, True, False, "1", None, (1,))
BAD_MANY = (0, 4, -1, True, False, "1", None, (1,))
WALK = ("a!kern5 b\n", (), 3)
BAD_WALKS = (
    ("a\n", (), 3), ("a\n", (), -1), ("a\n", (), True), ("a\n", (), 2001), ("a\n", ()), ("a\n", (), 1, 1), ["a\n", (), 1], ("a", (), 1), ("a\n", [], 1), ("a\n", (1,), 1), ("a\n", (True,) * 41, 1), ("a\n", (), "1"), (5, (), 0), 5, "", "a\n",
)
BAD_STEPS = (3, -1, True, False, "0", None, (0,), 10 ** 20)
FILE = (("put", "a"), ("push",), ("keep", 0, 5), ("pop",))
BAD_FILES = (
    (("push",),), (("pop",), ("push",)), (("put", "a"),) * 61, [("put", "a")], ("put", "a"), (["put", "a"],), (("put", "ab"),), (("move", True),), (("move", 10 ** 9 + 1),), (("keep", 2, 1),), (("keep", True, 1),), (("keep", 0),),
    (("go", -1),), (("go", False),), (("tell", N),), ((),), 5, "", (("push", 1), ("pop",)),
)
SPOT = (1, 2, 3)
BAD_SPOTS = ((1, 2), (1, 2, 3, 4), [1, 2, 3], (True, 2, 3), (1, False, 3), (1, 2, "3"), (10 ** 9 + 1, 2, 3), (1, -10 ** 9 - 1, 3), (1, 2, 10 ** 9 + 1), (1, 2, None), 5, "", ())
MARKS = ((0, "a"), (10 ** 9, "\n"))
BAD_MARKS = (
    (), ((0, "a"),) * 13, [(0, "a")], ([0, "a"],), (0, "a"), ((-1, "a"),), ((10 ** 9 + 1, "a"),), ((True, "a"),), (("0", "a"),), ((0, "ab"),), ((0, ""),), ((0, "\\"),), ((0, 5),), ((0,),), ((0, "a", "b"),), ((0, ["a"]),), 5, "",
)


class WrongInputs(unittest.TestCase):
    def test_groups(self):
        check_wrong(self, grouprows.done_deeds, (STATE, DEEDS), (InvalidState, InvalidDeeds), {0: BAD_STATES, 1: BAD_DEEDS})
        check_wrong(self, grouprows.deeds_of, ("(\n", (), 9), (InvalidText, InvalidAnswers, InvalidNumber), {0: BAD_TEXTS, 1: BAD_ANSWERS, 2: BAD_MOST})
        for function in (groupforms.form_of, groupmoves.idle_deeds, groupmoves.idle_groups, groupmoves.thinned_deeds):
            check_wrong(self, function, (DEEDS,), (InvalidDeeds,), {0: BAD_DEEDS})
            self.assertIsNone(raised(function, ((),)))
        for function in (groupforms.are_alike, groupforms.parting_state):
            check_wrong(self, function, (DEEDS, DEEDS), (InvalidDeeds, InvalidDeeds), {0: BAD_DEEDS, 1: BAD_DEEDS})
        check_wrong(self, groupmoves.places_of, (DEEDS, 0), (InvalidDeeds, InvalidNumber), {0: BAD_DEEDS, 1: (3, -1, True, False, "0", None, (0,))})
        self.assertIs(raised(groupmoves.places_of, ((), 0)), InvalidNumber)
        self.assertIsNone(raised(groupmoves.places_of, (DEEDS, 2)))

    def test_stacks(self):
        check_wrong(self, groupstacks.state_told, (((), ()),), (InvalidStack,), {0: BAD_STACKS}, {0: [((), ())]})
        check_wrong(self, groupstacks.least_stack, (STATE,), (InvalidState,), {0: BAD_STATES})
        check_wrong(
            self, groupstacks.stack_by, (STATE, DEEDS, "each"), (InvalidState, InvalidDeeds, InvalidWay), {0: BAD_STATES, 1: BAD_DEEDS, 2: ("", "Each", "all", ("each",), ["first"], 5, "firsteach")},
        )
        self.assertIsNone(raised(groupstacks.stack_by, (STATE, DEEDS, "first")))
        self.assertIsNone(raised(groupstacks.state_told, (((), (GROUP,) * 99),)))

    def test_no_group_is_asked_at_last(self):
        end = (("end",),)
        for function, arguments, error in (
            (grouprows.done_deeds, (STATE[:1], end), NoGroup), (groupstacks.stack_by, (STATE[:1], end, "each"), NoGroup), (groupstacks.stack_by, (STATE[:1], end, "all"), InvalidWay),
            (groupstacks.stack_by, (STATE[:1], (("after", (5, "a")),), "first"), NoGroup), (grouprows.done_deeds, (STATE[:1], end + ((),)), InvalidDeeds), (grouprows.done_deeds, (STATE, end * 2), NoGroup),
            (grouprows.deeds_of, ("()" * 31 + "\n", (), 2001), InvalidNumber), (grouprows.deeds_of, ("()" * 31 + "\n", (), 99), TooMany), (grouprows.deeds_of, ("()" * 30 + "\n", (), 99), None),
        ):
            self.assertIs(raised(function, arguments), error, (function, arguments))

    def test_strips(self):
        check_wrong(self, strips.strip_width, (STRIP,), (InvalidStrip,), {0: BAD_STRIPS})
        check_wrong(self, strips.set_places, (STRIP, 5), (InvalidStrip, InvalidWidth), {0: BAD_STRIPS, 1: BAD_WIDTHS}, {1: [-1]})
        indices = (4, -1, True, "1", None, (1,))
        for function in (packing.packed, packing.may_pack, packing.packing_shown):
            check_wrong(self, function, (STRIP, 1, 2), (InvalidStrip, InvalidIndex, InvalidIndex), {0: BAD_STRIPS, 1: indices, 2: (*indices, 0)})
            self.assertIsNone(raised(function, (STRIP, 3, 3)))
        check_wrong(self, packing.set_halves, (STRIP, 1, 5), (InvalidStrip, InvalidIndex, InvalidWidth), {0: BAD_STRIPS, 1: indices, 2: BAD_WIDTHS}, {2: [-1]})
        for function in (packing.may_cut, packing.cut_shown):
            check_wrong(self, function, (STRIP, 1), (InvalidStrip, InvalidIndex), {0: BAD_STRIPS, 1: indices})
            self.assertIsNone(raised(function, (STRIP, 3)))

    def test_passages(self):
        check_wrong(
            self, taking.fit_between, (PASSAGE, 1, 0, 1), (InvalidPassage, InvalidNumber, InvalidIndex, InvalidIndex),
            {0: BAD_PASSAGES, 1: BAD_MUCH, 2: (2, -2, True, "0", None), 3: (2, 0, -1, True, "1", None)}, {2: [-1]},
        )
        for function in (taking.lines_taken, taking.some_lines):
            check_wrong(self, function, (PASSAGE, 1, 10), (InvalidPassage, InvalidNumber, InvalidWidth), {0: BAD_PASSAGES, 1: BAD_MUCH, 2: BAD_WIDTHS}, {2: [-1]})
            self.assertIsNone(raised(function, (PASSAGE, 10, -10 ** 9)))
        for function in (taking.may_take, taking.taking_shown):
            check_wrong(self, function, (PASSAGE, 1), (InvalidPassage, InvalidNumber), {0: BAD_PASSAGES, 1: BAD_MUCH})
        check_wrong(self, widthrows.width_rows, (PASSAGE, 1, 2), (InvalidPassage, InvalidNumber, InvalidNumber), {0: BAD_PASSAGES, 1: BAD_MUCH, 2: BAD_MANY})
        check_wrong(
            self, widthrows.parting_widths, (PASSAGE, PASSAGE, 1, 2), (InvalidPassage, InvalidPassage, InvalidNumber, InvalidNumber), {0: BAD_PASSAGES, 1: BAD_PASSAGES, 2: BAD_MUCH, 3: BAD_MANY},
        )

    def test_walks(self):
        self.assertIs(walks.is_walk(WALK), True)
        for value in BAD_WALKS:
            self.assertIs(walks.is_walk(value), False, value)
        for function in (walks.walk_ended, sources.things_told):
            check_wrong(self, function, (WALK,), (InvalidWalk,), {0: BAD_WALKS})
        check_wrong(self, walks.gone_further, (WALK, 2000), (InvalidWalk, InvalidNumber), {0: BAD_WALKS, 1: BAD_MOST})
        check_wrong(self, walks.gone_back, (WALK, 3), (InvalidWalk, InvalidNumber), {0: BAD_WALKS, 1: (4, -1, True, False, "1", (1,))})
        for function in (sources.way_of, sources.source_of, sources.come_of):
            check_wrong(self, function, (WALK, 2), (InvalidWalk, InvalidStep), {0: BAD_WALKS, 1: BAD_STEPS})
            self.assertIs(raised(function, (("a\n", (), 0), 0)), InvalidStep)

    def test_files(self):
        check_wrong(self, movefiles.shown_by_file, (FILE, SPOT), (InvalidFile, InvalidSpot), {0: BAD_FILES, 1: BAD_SPOTS})
        for function in (movefiles.file_weight, fileforms.form_of_file, fileforms.is_set_out):
            check_wrong(self, function, (FILE,), (InvalidFile,), {0: BAD_FILES})
        check_wrong(self, fileforms.parting_spot, (FILE, FILE), (InvalidFile, InvalidFile), {0: BAD_FILES, 1: BAD_FILES})
        check_wrong(self, lightfiles.puts_marks, (FILE, MARKS), (InvalidFile, InvalidMarks), {0: BAD_FILES, 1: BAD_MARKS})
        check_wrong(self, lightfiles.light_file, (MARKS,), (InvalidMarks,), {0: BAD_MARKS})
        self.assertIsNone(raised(movefiles.shown_by_file, (FILE, (10 ** 9, -10 ** 9, 0))))

    def test_any_values(self):
        # What a function asks of any value it tells of every one.
        for function in (grouprows.is_deeds, grouprows.is_state, strips.is_strip, strips.is_passage, walks.is_walk, movefiles.is_file):
            for value in ODD:
                self.assertIsInstance(function(value), bool)


if __name__ == "__main__":
    unittest.main()
