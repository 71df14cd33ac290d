"""Token rows, least texts, tables that part, nearest tables: fixed cases, and a slow way of its own."""

import itertools
import random
import unittest

from settlepages.errors import TooMany
from settlepages.kinds import SIGNS, is_table, kind_by
from settlepages.leasttexts import count_texts, least_text, plain_text
from settlepages.nearesttables import is_row_clash, nearest_table, row_clash
from settlepages.tableparts import kinds_let, parting_text
from settlepages.tokenrows import is_token_row, refused_at, row_told
from tests.odd import ODD
from tests.texts import random_texts

SP, PAR = (4, " "), ("name", "par")
SET_SIGNS = [sign for sign in sorted(SIGNS) if sign not in "\n0123456789"]


def texts_up_to(signs, longest):
    """All texts of up to so many signs out of these, and line feeds, the shorter ones first, then in order."""
    found = [""]
    for many in range(longest):
        found.extend("".join(some) + "\n" for some in itertools.product("\n" + signs, repeat=many))
    return found


def random_table(source, signs, chance=0.5):
    kinds = {}
    for sign in signs:
        if sign in SET_SIGNS and source.random() < chance:
            kind = source.randint(0, 9)
            if kind != kind_by((), sign):
                kinds[sign] = kind
    return kinds


def table_of_few(source, signs):
    """A table by which only some signs can have the kinds 0, 4, 8 and 9 (but for the line feed)."""
    kinds = {sign: 6 for sign in "!;( )~$" if sign not in signs}
    kinds.update(random_table(source, signs))
    return tuple(sorted(kinds.items()))


def random_row(source, signs, longest):
    tokens = [(kind, sign) for sign in signs for kind in (1, 2, 3, 5, 6, 7) if is_token_row(((kind, sign),))]
    tokens += [SP] * 4 + [PAR] * 3 + [("name", sign) for sign in signs] + [("name", "\n"), ("name", "ab")]
    return tuple(source.choice(tokens) for _ in range(source.randint(0, longest)))


class TokenRows(unittest.TestCase):
    def test_token_rows(self):
        for row in (
            (), (SP,), ((5, "a"),) * 40, ((6, "1"),), (("name", "1"),), (("name", "\n"),), (("name", "a" * 20),),
            (("name", "a b"),), ((1, " "),), ((7, "a"), (5, "!")), (("name", "  "),), (PAR, PAR),
        ):
            self.assertIs(is_token_row(row), True, row)
        for row in (((5, "a"),) * 41, ((4, "a"),), ((0, "!"),), ((5, "1"),), ((5, "\n"),), (("name", "a" * 21),)):
            self.assertIs(is_token_row(row), False, row)

    def test_every_token_that_is_told_is_given(self):
        for number, text in enumerate(random_texts(21, 200, 10, 60)):
            table = ((), (("a", 9), ("b", 0)), (("!", 6), ("a", 4)), (("q", 8), ("~", 5), (" ", 5)))[number % 4]
            row = row_told(tuple(sorted(table)), text)
            self.assertTrue(all(is_token_row((token,)) for token in row), row)

    def test_rows_refused(self):
        no_remark = ((";", 6),)
        for table, row, told in (
            ((), (), None), ((), (SP,), (0, "space")), ((), ((5, "a"), SP, SP), (2, "space")),
            ((), (("name", "ab"), SP), (1, "space")), ((), (("name", "a"), SP), (1, "space")),
            ((), (("name", "+"), SP), None), ((), (("name", " "), SP), (1, "space")),
            ((), (("name", "\n"), SP), (1, "space")), ((), (PAR, SP), (1, "space")), ((), ((5, "a"), SP), None),
            (no_remark, ((5, "a"),), (1, "end")), (no_remark, ((5, "a"), SP), None), (no_remark, (("name", "a"),), None),
            (no_remark, (("name", "+"),), (1, "end")), (no_remark, ((5, "a"), PAR), None),
            (no_remark + (("p", 6),), ((5, "a"), PAR), (1, "name")), ((("!", 6),), (PAR, PAR), None),
            ((("!", 6),), (("name", "ab"),), (0, "name")), ((("b", 6),), (("name", "ab"),), (0, "name")),
            ((), ((5, "a"), (6, "a")), (1, "kind")), ((), ((1, "("), (2, ")"), (7, "~"), (3, "$")), None),
            ((("a", 9),), (("name", "a"), SP), None), ((("a", 9),), ((5, "a"),), (0, "kind")),
            ((), (("name", "a1"[:1]), (5, "b")), None), ((), ((5, "a"),) * 40, None),
        ):
            table = tuple(sorted(table))
            self.assertEqual(refused_at(table, row), told, (table, row))
            self.assertEqual(least_text(table, row) is None, told is not None, (table, row))


class LeastTexts(unittest.TestCase):
    def test_least_texts(self):
        for table, row, told in (
            ((), (), ""), ((), (PAR,), "\n"), ((), (PAR, PAR), "\n\n"), ((), ((5, "a"), PAR), "a;\n\n"),
            ((), (("name", "ab"), (5, "c")), "!ab\nc;\n"), ((), (("name", "a" * 20), (5, "c")), "!" + "a" * 20 + "c;\n"),
            ((), (("name", "a" * 19), (5, "c")), "!" + "a" * 19 + "\nc;\n"), ((), (("name", "ab"), (6, "1")), "!ab1;\n"),
            ((), (("name", "ab"), PAR), "!ab\n\n"), ((), (("name", "+"), PAR), "!+;\n\n"),
            ((), (("name", "\n"), PAR), "!\n\n"), ((), (("name", " "),), "! \n"), ((), ((5, "a"), SP, (5, "b")), "a\nb;\n"),
            ((("\"", 0), ("#", 8)), (("name", "a"), (5, "b")), "!a\nb#\n"),
            ((("#", 0), ("!", 6)), (("name", "a"), (6, "!")), "#a!;\n"), (((";", 5),), ((5, ";"), PAR), ";!par\n"),
            ((("a", 8), (";", 6)), ((5, "b"),), "ba\n"),
        ):
            self.assertEqual(least_text(tuple(sorted(table)), row), told, (table, row))

    def test_longest(self):
        name = ("name", "a" * 20)
        self.assertEqual(len(least_text((), (name,) * 19)), 400)
        with self.assertRaises(TooMany) as caught:
            least_text((), (name,) * 19 + ((6, "1"),))
        self.assertEqual(caught.exception.limit, 400)
        self.assertIsNone(least_text((("!", 6),), (name,) * 40))
        self.assertIsNone(refused_at((), (name,) * 40))
        self.assertEqual(nearest_table((), (name,) * 40), ())
        self.assertEqual(least_text((), ((5, "a"),) * 40), "a" * 40 + ";\n")

    def test_plain_texts(self):
        for number, text in enumerate(random_texts(22, 200, 14)):
            table = ((), (("a", 9), ("b", 0)), (("!", 6), ("a", 4)), ((" ", 5), ("q", 8)))[number % 4]
            plain = plain_text(table, text)
            row = row_told(table, text)
            self.assertEqual(row_told(table, plain), row)
            self.assertLessEqual((len(plain), plain), (len(text), text))
            self.assertEqual(plain_text(table, plain), plain)
            if is_token_row(row):
                self.assertEqual(least_text(table, row), plain)
                self.assertIsNone(refused_at(table, row))
        self.assertEqual(plain_text((), "a" * 399 + "\n"), "a" * 399 + "\n")
        self.assertEqual(plain_text((), "ab " * 133 + "\n")[:6], "ab\nab\n")
        self.assertEqual(plain_text((), ""), "")

    def test_counts(self):
        self.assertEqual(count_texts((), (), (), 0), 1)
        self.assertEqual(count_texts((), (PAR,), (), 0), 0)
        self.assertEqual(count_texts((), (PAR,) * 40, (), 40), 1)
        self.assertEqual(count_texts((), (PAR,), (" ",), 40), 1)
        self.assertEqual(count_texts((), (), (";", "a"), 40), count_remarks(40))
        signs = tuple("abcdefghijklmnopqrst")
        self.assertEqual(count_texts((("a", 8),), (), signs, 4), 20 ** 2 + 1)

    def test_names_of_twenty_and_more(self):
        self.assertEqual(count_texts((), (("name", "a" * 20), (5, "a"), SP), ("!", "a"), 23), 1)
        self.assertEqual(count_texts((), (("name", "a" * 20),), ("!", "a"), 22), 1)
        self.assertEqual(count_texts((), (("name", "a" * 19), (5, "a"), SP), ("!", "a"), 23), 1)
        self.assertEqual(count_texts((), (("name", "a" * 19), (5, "a"), SP), ("!", "a"), 22), 0)

    def test_against_all_short_texts(self):
        source = random.Random(23)
        for _ in range(25):
            signs = "".join(sorted(source.sample("!a ;(b~1", 3)))
            table = table_of_few(source, signs)
            least, counts = {}, {}
            for text in texts_up_to(signs, 5):
                row = row_told(table, text)
                least.setdefault(row, text)
                counts[row, len(text)] = counts.get((row, len(text)), 0) + 1
            for row in source.sample(sorted(least, key=repr), min(len(least), 20)):
                told = least_text(table, row)
                self.assertEqual(row_told(table, told), row)
                self.assertLessEqual((len(told), told), (len(least[row]), least[row]))
                if set(told) <= set(signs + "\n"):
                    self.assertEqual(told, least[row])
                self.assertIsNone(refused_at(table, row))
                for many in range(6):
                    self.assertEqual(count_texts(table, row, tuple(signs), many), counts.get((row, many), 0))
            self.check_refusals(source, table, signs, least)

    def check_refusals(self, source, table, signs, least):
        """A row is refused where no text tells one that begins so; short texts out of a few signs show most."""
        beginnings = {row[:many] for row in least for many in range(len(row) + 1)}
        for _ in range(20):
            row = random_row(source, signs, 3)
            told = refused_at(table, row)
            self.assertEqual(told is None, least_text(table, row) is not None)
            if told is None:
                self.assertEqual(row_told(table, least_text(table, row)), row)
                continue
            index, word = told
            self.assertNotIn(row[:index + 1] if index < len(row) else None, beginnings)
            if index == len(row):
                self.assertEqual(word, "end")
                self.assertNotIn(row, least)
            else:
                sort = row[index][0]
                self.assertEqual(word, "space" if row[index] == SP else "name" if sort == "name" else "kind")
            if index > 0:
                self.assertIn(refused_at(table, row[:index]), (None, (index, "end")))


def count_remarks(many):
    """How many texts of so many signs, out of ";", "a" and line feeds, are remarks alone."""
    counts = [1]
    for length in range(1, many + 1):
        counts.append(sum(counts[length - line] * 2 ** (line - 2) for line in range(2, length + 1)))
    return counts[many]


class TableParts(unittest.TestCase):
    def test_parting_texts(self):
        for one, two, signs, told in (
            ((), (), ("a", "b"), None), ((), (("a", 6),), (), None), ((), (("a", 6),), ("b",), None),
            ((), (("a", 6), ("b", 7)), ("a", "b"), "a\n"), ((), (("b", 6),), ("a", "b"), "b\n"),
            ((("a", 4), ("b", 9)), (("a", 9), ("b", 4)), ("a", "b"), None),
            ((("a", 4), ("b", 9)), (("a", 9), ("b", 4)), ("a", "b", "c"), "ac\n"),
            ((("a", 4),), (("a", 9),), ("!", "a"), "!a\n"), ((("a", 4),), (("a", 9),), (";", "a"), "a;\n"),
            ((("a", 8),), (("a", 9),), ("a",), "a\n"), ((("a", 8),), (("a", 4),), ("a",), "a\n"),
            ((), (("b", 8),), ("1", "2"), None),
        ):
            self.assertEqual(parting_text(one, two, signs), told, (one, two, signs))
            self.assertEqual(parting_text(two, one, signs), told, (two, one, signs))
        many = tuple("abcdefghijklmnopqrst")
        self.assertEqual(parting_text((("a", 4),), (("a", 9),), many), "ab\n")

    def test_against_all_short_texts(self):
        source = random.Random(24)
        for number in range(150):
            signs = "".join(sorted(source.sample("!a ;(b~1", 3)))
            one, two = (random_table(source, signs) for _ in range(2))
            if number % 3 == 0:
                one.update({sign: source.choice((4, 9)) for sign in "ab" if sign in signs})
                two.update({sign: source.choice((4, 9)) for sign in "ab" if sign in signs})
            one, two = tuple(sorted(one.items())), tuple(sorted(two.items()))
            some = tuple(sorted(source.sample(signs, source.randint(0, 3))))
            parting = [text for text in texts_up_to("".join(some), 4) if row_told(one, text) != row_told(two, text)]
            self.assertEqual(parting_text(one, two, some), parting[0] if parting else None)
            same = all(kind_by(one, sign) == kind_by(two, sign) for sign in some)
            blank = all(kind_by(table, sign) in (4, 9) for table in (one, two) for sign in some)
            self.assertEqual(not parting, same or blank)

    def test_kinds_let(self):
        for table, text, sign, told in (
            ((), "", "a", tuple(range(10))), ((), "\n", " ", tuple(range(10))), ((), " \n", " ", (4, 9)),
            ((), "a \n", " ", (4, 9)), ((), "a b\n", " ", (4,)), ((), "!a\n", "a", (4, 5)),
            ((), "!+\n", "+", (0, 1, 2, 3, 6, 7, 8, 9)), ((), "!a;\n", "a", tuple(range(10))),
            ((), "a;b\n", ";", (8,)), ((), ";\n", ";", (8,)), ((("a", 7),), "a\n", "a", (7,)),
            ((), "!ab c\n", " ", (4,)), ((), "!ab(\n", "(", (1,)),
        ):
            self.assertEqual(kinds_let(table, text, sign), told, (table, text, sign))


class Clashes(unittest.TestCase):
    def clashes(self, row):
        """All clashes, as the document tells them."""
        def needs(token, sign):
            if token in (SP, PAR) or sign not in token[1]:
                return None
            if token[0] != "name":
                return token[0]
            return 5 if len(token[1]) > 1 else None
        signs = sorted({sign for token in row for sign in token[1]})
        found = set()
        for index, token in enumerate(row):
            before = row[index - 1] if index else None
            if token == SP and (
                before is None or before == SP or (before[0] == "name" and (len(before[1]) > 1 or before[1] == "\n"))
            ):
                found.add(("space", index))
            for other in range(len(row)):
                for sign in signs:
                    one, two = needs(token, sign), needs(row[other], sign)
                    if index < other and one is not None and two is not None and one != two:
                        found.add(("kinds", index, other, sign))
                    if token == ("name", sign) and row[index + 1:index + 2] == (SP,) and two == 5:
                        found.add(("behind", index, other, sign))
        return found

    def test_sorts_of_clashes(self):
        for row, told in (
            ((SP,), {("space", 0)}), (((5, "a"), SP, SP), {("space", 2)}), ((("name", "ab"), SP), {("space", 1)}),
            ((("name", "\n"), SP), {("space", 1)}), ((PAR, SP), {("space", 1)}), ((("name", "a"), SP), set()),
            (((5, "a"), (6, "a")), {("kinds", 0, 1, "a")}), (((6, "a"), ("name", "ab")), {("kinds", 0, 1, "a")}),
            (((6, "p"), PAR), set()), ((("name", "a"), SP, (5, "a")), {("behind", 0, 2, "a")}),
            (((5, "a"), ("name", "a"), SP), {("behind", 1, 0, "a")}), ((("name", "a"), (5, "a"), SP), set()),
            ((("name", "a"), SP, (6, "a")), set()), ((("name", "1"), SP), set()), ((("name", " "), SP), set()),
        ):
            self.assertEqual(self.clashes(row), told, row)
            clash = row_clash(row)
            self.assertEqual(clash is None, not told, row)
            if told:
                self.assertIn(clash, told)

    def test_clashes_against_the_definition(self):
        source = random.Random(25)
        for _ in range(600):
            row = random_row(source, source.sample("!a b;pr1", 3), 6)
            told = self.clashes(row)
            clash = row_clash(row)
            self.assertEqual(clash is None, not told)
            if told:
                self.assertIn(clash, told)
            for one in range(-1, len(row) + 1):
                self.assertIs(is_row_clash(row, ("space", one)), ("space", one) in told)
                for other in range(-1, len(row) + 1):
                    for sign in "a b":
                        for word in ("kinds", "behind"):
                            value = (word, one, other, sign)
                            self.assertIs(is_row_clash(row, value), value in told, (row, value))

    def test_values_that_are_no_clashes(self):
        row = ((5, "a"), (6, "a"), SP, SP)
        for value in ODD + (
            ("kinds", False, True, "a"), ("kinds", 0, True, "a"), ["kinds", 0, 1, "a"], ("kinds", 0, 1, ("a",)),
            ("space", "3"), ("space", 3, 3), ("space", (3,)), ("kinds", 1, 0, "a"), ("kinds", 0, 1), "space",
        ):
            self.assertIs(is_row_clash(row, value), False, value)
        self.assertIs(is_row_clash(row, ("kinds", 0, 1, "a")), True)
        self.assertIs(is_row_clash((("name", "a"), SP, (5, "a"), SP), ("behind", False, 2, "a")), False)
        self.assertIs(is_row_clash(((5, "a"), SP, SP, (5, "a")), ("space", 2)), True)
        self.assertIs(is_row_clash((SP,), ("space", False)), False)
        self.assertIs(is_row_clash((("name", "ab"), SP), ("behind", 0, 0, "ab")), False)


class NearestTables(unittest.TestCase):
    def changes(self, one, two):
        return sum(kind_by(one, sign) != kind_by(two, sign) for sign in SIGNS)

    def test_number_of_changes(self):
        bare = tuple(sorted({sign: 6 for sign in "!;"}.items()))
        for table, row, many in (
            ((), (), 0), ((), ((5, "a"),), 0), ((), ((6, "a"),), 1), ((), ((6, "a"), (7, "b")), 2),
            ((), ((5, "a"), SP), 0), ((), (("name", "a"), SP), 1), ((), (("name", "a"), SP, (6, "a")), 1),
            (bare, (("name", "ab"),), 1), (bare, ((5, "a"),), 1), (bare, (("name", "ab"), (5, "a")), 2),
            (bare, (("name", "a"), SP), 1), (bare, (("name", "a"), SP, ("name", "b"), SP), 2),
            (bare, (("name", "a"), SP, (5, "b")), 2), (bare, ((5, "a"), PAR), 1), (bare, (PAR,), 0),
            (bare, (("name", "a"), (5, "b"), PAR), 1), (bare, (("name", "b"), PAR), 1), (bare, (("name", "+"), PAR), 1),
            (bare, (("name", "+"),), 2), (bare, (("name", "+"), SP), 1), ((("!", 6),), (("name", "!"), SP), 1),
            ((("+", 5), (";", 6)), (("name", "+b"),), 0), ((("!", 6), ("+", 5), (";", 6)), (("name", "+b"),), 1),
            (((";", 6),), ((5, "b"), PAR), 0), (((";", 6), ("p", 6)), ((5, "b"), PAR), 1),
            (((";", 6),), (("name", "a"),), 0), (((";", 6),), (("name", " "), PAR), 0), ((), (("name", " "), SP), 1),
            (((" ", 8), ("!", 6), (";", 6)), (("name", "ab"), (5, "c")), 1),
            ((), ((6, "!"), ("name", "ab")), 2), ((), ((6, ";"), (5, "a")), 2), ((), ((1, " "), SP), 1),
        ):
            near = nearest_table(table, row)
            self.assertIs(is_table(near), True, (table, row))
            self.assertIsNone(refused_at(near, row), (table, row, near))
            self.assertEqual(self.changes(table, near), many, (table, row, near))

    def test_no_table(self):
        source = random.Random(26)
        for _ in range(400):
            row = random_row(source, source.sample("!a b;pr1", 3), 6)
            table = tuple(sorted(random_table(source, "!a b;pr").items()))
            near = nearest_table(table, row)
            self.assertEqual(near is None, row_clash(row) is not None)
            if near is not None:
                self.assertIsNotNone(least_text(near, row))
            if refused_at(table, row) is None:
                self.assertEqual(near, table)

    def test_forty_unlike_signs(self):
        signs = "".join(SET_SIGNS)
        letters = "".join(sign for sign in signs if sign not in "!; ")
        row = (("name", letters[:20]), ("name", letters[20:39]), (6, "1"), PAR)[:3]
        self.assertIsNone(refused_at(nearest_table((), row), row))
        row = tuple((6, sign) for sign in letters[:38]) + (("name", " "), ("name", ";"))
        near = nearest_table((), row)
        self.assertIsNone(refused_at(near, row))
        # The blank of a space stands in the row, too.
        row = tuple((6, sign) for sign in letters[:39]) + (SP,)
        self.assertIsNone(refused_at(nearest_table((), row), row))
        with self.assertRaises(TooMany):
            nearest_table((), (("name", letters[:20]), ("name", letters[20:40]), (5, letters[0]), SP))

    def test_as_few_as_can_be(self):
        """No table with fewer changes, among those of some signs, writes the row."""
        source = random.Random(27)
        for _ in range(60):
            few = source.sample("!;(par~ab? ", source.randint(0, 4))
            kinds = {sign: 6 for sign in SET_SIGNS}
            kinds.update({sign: 5 for sign in "par" if source.random() < 0.7})
            kinds.update({sign: source.choice((0, 8, 4, 5, 6, 9, 1)) for sign in few})
            table = tuple((sign, kind) for sign, kind in sorted(kinds.items()) if kind_by((), sign) != kind)
            tokens = [(kind, sign) for sign in "p?a" for kind in (1, 5, 6)] + [SP] * 4 + [PAR] * 5
            tokens += [("name", word) for word in ("p", "?", "a", "b", ";", "!", "~", "\n", "ab", "?b")]
            row = tuple(source.choice(tokens) for _ in range(source.randint(0, 6)))
            near = nearest_table(table, row)
            if near is None:
                continue
            self.assertIsNone(refused_at(near, row))
            many = self.changes(table, near)
            signs = sorted(set("".join(token[1] for token in row) + "par!;xy") - {"\n"})
            for fewer in range(min(many, 2)):
                for some in itertools.combinations(signs, fewer):
                    for values in itertools.product(range(10), repeat=fewer):
                        changed = {**kinds, **dict(zip(some, values))}
                        other = tuple(
                            (sign, kind) for sign, kind in sorted(changed.items()) if kind_by((), sign) != kind
                        )
                        self.assertIsNotNone(refused_at(other, row), (table, row, other, near))


if __name__ == "__main__":
    unittest.main()
