"""Cutting: each kind in each standing, names, remarks and ends of lines."""

import unittest

from settlepages.cutting import cut_once, cuts_of
from tests.texts import random_texts

STANDINGS = ("new", "within", "skip")


class CutOnce(unittest.TestCase):
    def test_kinds_that_are_tokens(self):
        for kind in (1, 2, 3, 5, 6, 7):
            table = () if kind == 5 else (("q", kind),)
            for standing in STANDINGS:
                self.assertEqual(cut_once(table, "qa\n", 0, standing), ((kind, "q"), 1, "within"))

    def test_kind_4(self):
        for table, text in (((), " a\n"), ((("a", 4),), "ab\n")):
            self.assertEqual(cut_once(table, text, 0, "within"), ((4, " "), 1, "skip"))
            self.assertEqual(cut_once(table, text, 0, "new"), (None, 1, "new"))
            self.assertEqual(cut_once(table, text, 0, "skip"), (None, 1, "skip"))

    def test_kind_8(self):
        for standing in STANDINGS:
            self.assertEqual(cut_once((), ";ab;\nc\n", 0, standing), (None, 5, "new"))
            self.assertEqual(cut_once((("a", 8),), "xab\n\n", 1, standing), (None, 4, "new"))

    def test_kind_9(self):
        for table, text, behind in (((), "\na\n", 1), ((("a", 9),), "ab!c\nd\n", 5), ((("a", 9),), "a\n", 2)):
            self.assertEqual(cut_once(table, text, 0, "new"), (("name", "par"), behind, "new"))
            self.assertEqual(cut_once(table, text, 0, "within"), ((4, " "), behind, "new"))
            self.assertEqual(cut_once(table, text, 0, "skip"), (None, behind, "new"))

    def test_names(self):
        for standing in STANDINGS:
            for table, text, told in (
                ((), "!ab1\n", (("name", "ab"), 3, "skip")),
                ((), "!a b\n", (("name", "a"), 2, "skip")),
                ((), "!1ab\n", (("name", "1"), 2, "within")),
                ((), "! ab\n", (("name", " "), 2, "skip")),
                ((), "!\nab\n", (("name", "\n"), 2, "new")),
                ((), "!!ab\n", (("name", "!"), 2, "within")),
                ((), "!;ab\n", (("name", ";"), 2, "within")),
                ((), "!~ab\n", (("name", "~"), 2, "within")),
                ((), "!(ab\n", (("name", "("), 2, "within")),
                ((), "!" + "a" * 19 + "\n", (("name", "a" * 19), 20, "skip")),
                ((), "!" + "a" * 20 + "\n", (("name", "a" * 20), 21, "skip")),
                ((), "!" + "a" * 21 + "\n", (("name", "a" * 20), 21, "skip")),
                ((("a", 4),), "!ab\n", (("name", "a"), 2, "skip")),
                ((("a", 9),), "!ab\n", (("name", "a"), 2, "within")),
                ((("a", 0),), "!ab\n", (("name", "a"), 2, "within")),
                ((("+", 5),), "!a+b c\n", (("name", "a+b"), 4, "skip")),
                ((("+", 0),), "+ab c\n", (("name", "ab"), 3, "skip")),
                (((" ", 5),), "!a b.\n", (("name", "a b"), 4, "skip")),
                (((" ", 6),), "! b.\n", (("name", " "), 2, "within")),
            ):
                self.assertEqual(cut_once(table, text, 0, standing), told, (table, text))

    def test_index_within_a_text(self):
        self.assertEqual(cut_once((), "ab!cd\n", 3, "new"), ((5, "c"), 4, "within"))
        self.assertEqual(cut_once((), "ab!cd\n", 5, "within"), ((4, " "), 6, "new"))
        self.assertEqual(cut_once((), "a\n;b\n", 2, "skip"), (None, 5, "new"))


class CutsOf(unittest.TestCase):
    def test_texts(self):
        for table, text, told in (
            ((), "", []),
            ((), ";\n;\n", []),
            ((), "  \n", [(("name", "par"), 2, 3)]),
            ((), "a  b\n", [((5, "a"), 0, 1), ((4, " "), 1, 2), ((5, "b"), 3, 4), ((4, " "), 4, 5)]),
            ((), "!ab  \n\n", [(("name", "ab"), 0, 3), (("name", "par"), 6, 7)]),
            ((), "!\n\n", [(("name", "\n"), 0, 2), (("name", "par"), 2, 3)]),
            ((), "a;b\n c\n", [((5, "a"), 0, 1), ((5, "c"), 5, 6), ((4, " "), 6, 7)]),
            ((("a", 9),), "babb\nab\n", [((5, "b"), 0, 1), ((4, " "), 1, 5), (("name", "par"), 5, 8)]),
            ((("a", 8),), "babb\nab\n", [((5, "b"), 0, 1)]),
            ((("\"", 7), ("~", 5)), "\"~!~\n", [((7, "\""), 0, 1), ((5, "~"), 1, 2), (("name", "~"), 2, 4)]),
        ):
            self.assertEqual(cuts_of(table, text), told, (table, text))

    def test_cuts_follow_from_single_cuts(self):
        for number, text in enumerate(random_texts(11, 300, 12)):
            table = ((), (("a", 9), ("b", 0)), (("!", 6), ("a", 4)), (("q", 8), ("~", 5)))[number % 4]
            told = []
            at, standing = 0, "new"
            while at < len(text):
                token, behind, standing = cut_once(table, text, at, standing)
                self.assertGreater(behind, at)
                if token is not None:
                    told.append((token, at, behind))
                if text[behind - 1] == "\n":
                    self.assertEqual(standing, "new")
                at = behind
            self.assertEqual(cuts_of(table, text), told)

    def test_returned_list_is_new(self):
        cuts_of((), "a\n").clear()
        self.assertEqual(len(cuts_of((), "a\n")), 2)


if __name__ == "__main__":
    unittest.main()
