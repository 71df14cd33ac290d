"""Readers: lines that are entered, taken back and entered again; against runs of all lines as one text."""

import random
import unittest

from settlepages.errors import CannotEnter, InvalidLine, NothingToRedo, NothingToUndo
from settlepages.readers import Reader
from settlepages.runs import run_of, state_of
from tests.odd import ODD
from tests.texts import random_texts

S = ("space", 0, 0, 0, 0, 0)


def sign(letter):
    return ("sign", letter)


def entered(*lines):
    """A reader that entered some lines."""
    reader = Reader()
    for line in lines:
        reader.enter(line)
    return reader


def told(reader):
    """All that a reader tells."""
    return (reader.lines, reader.levels, len(reader), bool(reader))


class Entering(unittest.TestCase):
    def test_no_lines(self):
        reader = Reader()
        self.assertEqual(told(reader), ((), ("text",), 0, True))

    def test_lines(self):
        reader = Reader()
        self.assertEqual(reader.enter("ab\n"), (sign("a"), sign("b"), S))
        self.assertEqual(reader.enter("\n"), (("par",),))
        self.assertEqual(reader.enter(";c\n"), ())
        self.assertEqual(reader.enter("!num1 7 (!box(c;\n"), ())
        self.assertEqual(told(reader), (("ab\n", "\n", ";c\n", "!num1 7 (!box(c;\n"), ("text", "brace", "box"), 4, True))
        self.assertEqual(reader.enter("!kern!num1)!kern!num1)!kern!num1;\n"), (("box", (sign("c"), ("kern", 7))), ("kern", 7), ("kern", 7)))
        self.assertEqual(reader.levels, ("text",))
        self.assertEqual(reader.enter("!par\n"), (("par",),))

    def test_values_that_are_handed_over(self):
        reader = entered("!rule!f$1(<$1>)!row0(ab)!kind!q4!let!x!f;\n", "(!after y!num0 3 !everywhere!num2 9 ;\n", "!free a!else;\n")
        self.assertEqual(reader.levels, ("text", "brace"))
        self.assertEqual(reader.enter("!x zq!text!row0!text!num0!endtest)!text!num2;\n"), (sign("<"), sign("z"), sign(">"), S, sign("a"), sign("b"), sign("3"), sign("y"), sign("9")))
        self.assertEqual(told(reader)[1:], (("text",), 4, True))

    def test_against_one_text(self):
        source = random.Random(90)
        counts = {"on": 0, "ended": 0, "back": 0}
        for text in random_texts(91, 400, 16, 200):
            lines = [line + "\n" for line in text.split("\n")[:-1]]
            if not lines:
                continue
            reader, all_things, so_far = Reader(), (), ""
            for line in lines:
                state = state_of(so_far, (), 2000)
                # Where a number stood open, or tokens were wanted, the lines by themselves are other than one text.
                if state is None or state[5]:
                    break
                things = reader.enter(line)
                so_far += line
                all_things += things
                end, state = run_of(so_far, (), 2000)[0], state_of(so_far, (), 2000)
                self.assertEqual(all_things, end[1] if end[0] == "done" else end[3][0] if end[0] == "error" else all_things, so_far)
                self.assertIs(bool(reader), state is not None)
                self.assertEqual(reader.levels, () if state is None else tuple(level[0] for level in state[0]))
                self.assertEqual(reader.lines, tuple(lines[:len(reader)]))
                counts["on" if state is not None else "ended"] += 1
                if source.random() < 0.5:
                    before = told(reader)
                    reader.undo()
                    self.assertIs(bool(reader), True)
                    if source.random() < 0.5:
                        self.assertEqual(reader.enter(line), things)
                    else:
                        reader.redo()
                    self.assertEqual(told(reader), before)
                    counts["back"] += 1
            if not reader:
                with self.assertRaises(CannotEnter):
                    reader.enter("a\n")
        self.assertGreater(min(counts.values()), 60, counts)

    def test_a_number_that_stood_open(self):
        # Its figures do not go on in the next line, as they would in one text.
        reader = Reader()
        self.assertEqual(reader.enter("!kern5;\n"), (("kern", 5),))
        self.assertEqual(reader.enter("6\n"), (sign("6"), S))
        self.assertEqual(run_of("!kern5;\n6\n", (), 99)[0], ("done", (("kern", 56),)))

    def test_lines_without_a_state(self):
        for line, things in (
            ("a)b\n", (sign("a"),)), ("a!stop b\n", (sign("a"),)), ("ab!x\n", (sign("a"), sign("b"))), ("!kern\n", ()), ("!box(a)!box(b!x\n", (("box", (sign("a"),)),)),
            ("a!free b\n", (sign("a"),)), ("a!endtest\n", (sign("a"),)), ("!free a!stop\n", ()),
        ):
            reader = entered("c\n")
            self.assertEqual(reader.enter(line), things, line)
            self.assertEqual(told(reader), (("c\n", line), (), 2, False))
            self.assertIs(bool(reader), False)
            for _ in range(2):
                with self.assertRaises(CannotEnter):
                    reader.enter("a\n")
            self.assertEqual(told(reader), (("c\n", line), (), 2, False))
            reader.undo()
            self.assertEqual(told(reader), (("c\n",), ("text",), 1, True))
            self.assertEqual(reader.enter("d\n"), (sign("d"), S))
        # Levels and tests may stay open.
        self.assertIs(bool(entered("(!box(\n")), True)
        self.assertIs(bool(entered("!equal 1 1 a\n")), True)

    def test_steps_in_all(self):
        line = "a" * 399 + "\n"
        reader = Reader()
        for _ in range(4):
            self.assertEqual(len(reader.enter(line)), 400)
        self.assertEqual(len(reader.enter(line)), 400)
        self.assertEqual(told(reader)[1:], (("text",), 5, True))
        # The two thousand steps are done: lines that do none can be entered still.
        self.assertEqual(reader.enter(";\n"), ())
        self.assertIs(bool(reader), True)
        self.assertEqual(reader.enter("a\n"), ())
        self.assertEqual(told(reader)[1:], ((), 7, False))
        reader.undo()
        reader.undo()
        reader.undo()
        self.assertEqual(reader.enter(line[1:]), (sign("a"),) * 398 + (S,))
        self.assertEqual(reader.enter("bc\n"), (sign("b"),))
        self.assertIs(bool(reader), False)
        reader = Reader()
        self.assertEqual(len(reader.enter("!rule!f(a!f)!f\n")), 999)
        self.assertIs(bool(reader), False)

    def test_forty_lines(self):
        reader = entered(*("a\n",) * 39)
        self.assertEqual(reader.enter("b\n"), (sign("b"), S))
        self.assertEqual(len(reader), 40)
        with self.assertRaises(CannotEnter):
            reader.enter("c\n")
        self.assertEqual(told(reader), (("a\n",) * 39 + ("b\n",), ("text",), 40, True))
        reader.undo()
        reader.redo()
        self.assertEqual(len(reader), 40)
        reader.undo()
        self.assertEqual(reader.enter("c\n"), (sign("c"), S))
        for many in range(39, -1, -1):
            reader.undo()
            self.assertEqual(len(reader), many)
        for many in range(1, 41):
            reader.redo()
            self.assertEqual(len(reader), many)
        self.assertEqual(reader.lines, ("a\n",) * 39 + ("c\n",))

    def test_what_is_no_line(self):
        reader = entered("(\n")
        for line in (
            "", "a", "a\nb\n", "\n\n", "a\nb", "a\\\n", chr(37) + "\n", "\t\n", "a" * 400 + "\n", ("a\n",), ["a\n"], 5, None, b"a\n", *ODD,
        ):
            with self.assertRaises(InvalidLine):
                reader.enter(line)
            self.assertEqual(told(reader), (("(\n",), ("text", "brace"), 1, True))
        self.assertIsNotNone(reader.enter("a" * 399 + "\n"))
        # The line is asked ahead of whether one can be entered.
        reader = entered(")\n")
        with self.assertRaises(InvalidLine):
            reader.enter("a")
        with self.assertRaises(CannotEnter):
            reader.enter("a\n")


class UndoAndRedo(unittest.TestCase):
    def test_both_ends(self):
        reader = Reader()
        for _ in range(2):
            with self.assertRaises(NothingToUndo):
                reader.undo()
            with self.assertRaises(NothingToRedo):
                reader.redo()
            self.assertEqual(told(reader), ((), ("text",), 0, True))
        reader.enter("(\n")
        with self.assertRaises(NothingToRedo):
            reader.redo()
        self.assertIsNone(reader.undo())
        with self.assertRaises(NothingToUndo):
            reader.undo()
        self.assertIsNone(reader.redo())
        with self.assertRaises(NothingToRedo):
            reader.redo()
        self.assertEqual(told(reader), (("(\n",), ("text", "brace"), 1, True))

    def test_order(self):
        reader = entered("(\n", "!box(\n", "a)\n", "b)\n", "c)\n")
        shown = [(reader.lines[-1:], reader.levels)]
        for _ in range(5):
            reader.undo()
            shown.append((reader.lines[-1:], reader.levels))
        expected = [
            (("c)\n",), ()), (("b)\n",), ("text",)), (("a)\n",), ("text", "brace")), (("!box(\n",), ("text", "brace", "box")), (("(\n",), ("text", "brace")), ((), ("text",)),
        ]
        self.assertEqual(shown, expected)
        for lines, levels in reversed(expected[:-1]):
            reader.redo()
            self.assertEqual((reader.lines[-1:], reader.levels), (lines, levels))

    def test_redo_behind_an_enter(self):
        reader = entered("a\n", "b\n")
        reader.undo()
        reader.enter("c\n")
        with self.assertRaises(NothingToRedo):
            reader.redo()
        self.assertEqual(reader.lines, ("a\n", "c\n"))
        reader.undo()
        reader.undo()
        reader.redo()
        self.assertEqual(reader.lines, ("a\n",))
        # The same line as the one that was taken back is an enter, too.
        reader.undo()
        reader.enter("a\n")
        with self.assertRaises(NothingToRedo):
            reader.redo()

    def test_an_enter_that_raises_is_none(self):
        reader = entered("a\n", "b)\n")
        reader.undo()
        with self.assertRaises(InvalidLine):
            reader.enter("c")
        reader.redo()
        self.assertEqual(reader.lines, ("a\n", "b)\n"))
        reader = entered("a\n", ")\n")
        with self.assertRaises(CannotEnter):
            reader.enter("c\n")
        reader.undo()
        reader.undo()
        reader.redo()
        reader.redo()
        self.assertEqual(told(reader), (("a\n", ")\n"), (), 2, False))
        with self.assertRaises(CannotEnter):
            reader.enter("c\n")
        with self.assertRaises(NothingToRedo):
            reader.redo()

    def test_what_was_set_is_taken_back(self):
        reader = entered("!num0 5 !rule!f(x)\n", "!num0 6 !kind!q4!rule!f(y)(\n")
        reader.undo()
        self.assertEqual(reader.enter("!text!num0!f q\n"), (sign("5"), sign("x"), sign("q"), S))
        reader.undo()
        reader.enter("!num0 6 !kind!q4!rule!f(y)(;\n")
        self.assertEqual(reader.enter("!text!num0!f q\n"), (sign("6"), sign("y")))


class Equality(unittest.TestCase):
    def test_readers(self):
        one, other = entered("a\n", "b\n"), entered("a\n")
        self.assertFalse(one == other)
        self.assertTrue(one != other)
        other.enter("b\n")
        self.assertTrue(one == other)
        self.assertFalse(one != other)
        one.enter("c\n")
        one.undo()
        # Lines that were taken back do not count, nor which states are handed over.
        self.assertTrue(one == other)
        one.undo()
        self.assertFalse(one == other)
        one.redo()
        self.assertTrue(one == other)
        self.assertTrue(Reader() == Reader())
        self.assertFalse(Reader() is Reader())
        self.assertFalse(entered(")\n") == entered(") \n"))

    def test_other_values(self):
        reader = entered("a\n")
        for value in (("a\n",), ["a\n"], "a\n", None, 1, True, (), reader.lines, reader.levels, *ODD):
            self.assertFalse(reader == value)
            self.assertFalse(value == reader)
            self.assertTrue(reader != value)

    def test_what_is_told_is_new(self):
        reader = entered("a\n")
        lines, levels = reader.lines, reader.levels
        reader.enter("(\n")
        self.assertEqual((lines, levels), (("a\n",), ("text",)))
        self.assertIsInstance(reader.lines, tuple)
        self.assertIsInstance(reader.levels, tuple)
        for name in ("lines", "levels"):
            with self.assertRaises(AttributeError):
                setattr(reader, name, ())


if __name__ == "__main__":
    unittest.main()
