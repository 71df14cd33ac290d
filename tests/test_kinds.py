"""Signs, texts, kinds, tables, and the error classes."""

import unittest

from settlepages import errors
from settlepages.kinds import is_table, is_text, kind_by

SIGNS = "\n" + "".join(chr(code) for code in range(32, 127) if chr(code) not in (chr(37), chr(92)))
USUAL = {"!": 0, "(": 1, ")": 2, "$": 3, " ": 4, "~": 7, ";": 8, "\n": 9}


class Kinds(unittest.TestCase):
    def test_texts(self):
        for text in ("", "\n", "a\n", SIGNS + "\n", "a" * 399 + "\n", "\n" * 400, "a\n\nb\n"):
            self.assertIs(is_text(text), True, text)
        for text in ("a", "a" * 400 + "\n", "\n" * 401, "a\nb", chr(37) + "\n", "\\\n", "\t\n", chr(127) + "\n"):
            self.assertIs(is_text(text), False, text)

    def test_every_sign_and_no_other_character(self):
        for code in range(300):
            self.assertIs(is_text(chr(code) + "\n"), chr(code) in SIGNS, code)

    def test_usual_kinds(self):
        for sign in SIGNS:
            expected = USUAL.get(sign, 5 if sign.isalpha() else 6)
            self.assertEqual(kind_by((), sign), expected, sign)

    def test_tables(self):
        for sign in SIGNS:
            for kind in range(10):
                usual = kind_by((), sign) == kind
                good = sign not in "\n0123456789" and not usual
                self.assertIs(is_table(((sign, kind),)), good, (sign, kind))
                if good:
                    self.assertEqual(kind_by(((sign, kind),), sign), kind)
                    self.assertEqual(kind_by(((sign, kind),), "0"), 6)
        whole = tuple((sign, 7 if sign != "~" else 6) for sign in sorted(SIGNS) if sign not in "\n0123456789")
        self.assertEqual(len(whole), 83)
        self.assertIs(is_table(whole), True)
        self.assertIs(is_table(()), True)
        self.assertIs(is_table((("a", 6), ("b", 6))), True)
        self.assertIs(is_table((("b", 6), ("a", 6))), False)
        self.assertIs(is_table((("a", 6), ("a", 7))), False)
        self.assertIs(is_table((("a", True),)), False)
        self.assertIs(is_table([("a", 6)]), False)


class Errors(unittest.TestCase):
    NAMES = (
        "InvalidText InvalidTable InvalidSign InvalidIndex InvalidStanding InvalidAnswers InvalidNumber TooMany "
        "InvalidRow InvalidSigns InvalidStops InvalidMends InvalidPairs Endless UnlikeLetters InvalidWord "
        "InvalidLetter InvalidThings InvalidValues InvalidChoices InvalidCase InvalidRowCode InvalidUses Refused "
        "InvalidParagraph InvalidCosts InvalidWay InvalidKey InvalidLot InvalidRoutine InvalidStack InvalidMarks "
        "NeverRests InvalidDeeds InvalidState NoGroup InvalidStrip InvalidPassage InvalidWidth InvalidWalk "
        "InvalidStep InvalidFile InvalidSpot InvalidLine CannotEnter NothingToUndo NothingToRedo"
    ).split()

    def test_classes(self):
        self.assertEqual(errors.SettleError.__bases__, (ValueError,))
        direct = {name for name in self.NAMES}
        self.assertEqual({error.__name__ for error in errors.SettleError.__subclasses__()}, direct)
        for name in self.NAMES:
            self.assertEqual(getattr(errors, name).__bases__, (errors.SettleError,), name)
            self.assertEqual(getattr(errors, name).__module__, "settlepages.errors")

    def test_attributes(self):
        self.assertEqual(errors.TooMany(40).limit, 40)
        self.assertEqual(errors.Refused("more").word, "more")


if __name__ == "__main__":
    unittest.main()
