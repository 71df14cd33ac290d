"""Programs of pairs: shapes, endless words, pairs met, alike programs, against a slow way of its own."""

import itertools
import random
import unittest

from settlepages.alikeshapes import alike_paper, idle_rows, is_alike_paper, unlike_word
from settlepages.errors import Endless, TooMany
from settlepages.pairshapes import endless_word, is_pairs, pairs_met, shape_of
from tests.odd import ODD, raised
from tests.programs import WORDY, without_rows

ENDLESS = ("ab", (("a", "b", ("put", "a", 1, 1, 0)), ("a", "a", ("put", "b", 1, 1, 0))))


def shape_slowly(program, word, most=1000):
    """Shape a word step by step, as it is told; None if it has no end within so many steps."""
    deeds = {(left, right): deed for left, right, deed in program[1]}
    row, told = ["", *word, ""], []

    def leave(items):
        for item in items:
            if item != "":
                told.append(("sign", item) if isinstance(item, str) else item)

    for _ in range(most):
        if len(row) == 1:
            return tuple(told)
        left, right = row[:2]
        deed = deeds.get((left, right))
        if deed is None or deed[0] == "kern":
            leave([left] if deed is None else [left, deed])
            row = row[1:]
        else:
            _, letter, keeps_left, keeps_right, on = deed
            stand = [left] * keeps_left + [letter] + [right] * keeps_right
            leave(stand[:on])
            row = stand[on:] + row[2:]
    return None


def random_program(source, letters, many):
    sides = ["", *letters]
    pairs = [(left, right) for left in sides for right in sides if left + right != ""]
    rows = []
    for left, right in source.sample(pairs, min(many, len(pairs))):
        if source.random() < 0.35:
            rows.append((left, right, ("kern", source.randint(-2, 2))))
            continue
        keeps_left = 1 if left == "" else source.randint(0, 1)
        keeps_right = 1 if right == "" else source.randint(0, 1)
        on = source.randint(0, keeps_left + keeps_right)
        rows.append((left, right, ("put", source.choice(letters), keeps_left, keeps_right, on)))
    return (letters, tuple(rows))


def words_of(letters, longest):
    return ["".join(some) for many in range(1, longest + 1) for some in itertools.product(letters, repeat=many)]


class Programs(unittest.TestCase):
    def test_programs(self):
        kern = ("kern", -99)
        for value in (
            ("a", ()), ("abcdefgh", ()), ("az", (("", "a", kern), ("a", "", kern), ("z", "a", ("kern", 99)))), WORDY,
            ("ba"[::-1], (("b", "a", kern), ("a", "b", kern))), ("a", (("a", "a", ("put", "a", 0, 0, 0)),)),
            ("a", (("", "a", ("put", "a", 1, 0, 1)), ("a", "", ("put", "a", 0, 1, 1)))),
            ("abcdefgh", tuple([(one, two, kern) for one in "abc" for two in "abcdefgh"])),
        ):
            self.assertIs(is_pairs(value), True, value)
        self.assertEqual(len(WORDY[1]), 24)

    def test_every_deed_at_every_place(self):
        for left, right in itertools.product(["", "a", "b"], repeat=2):
            for keeps_left, keeps_right, on in itertools.product((-1, 0, 1, 2), repeat=3):
                row = (left, right, ("put", "b", keeps_left, keeps_right, on))
                good = left + right != "" and keeps_left in (0, 1) and keeps_right in (0, 1)
                good = good and (left != "" or keeps_left == 1) and (right != "" or keeps_right == 1)
                good = good and 0 <= on <= keeps_left + keeps_right
                self.assertIs(is_pairs(("ab", (row,))), good, row)
                if good:
                    self.check_shapes(("ab", (row,)), 4)

    def check_shapes(self, program, longest):
        shapes = {word: shape_slowly(program, word) for word in words_of(program[0], longest)}
        endless = [word for word in shapes if shapes[word] is None]
        for word, shape in shapes.items():
            self.assertEqual(shape_of(program, word), shape, (program, word))
        told = endless_word(program)
        if endless:
            self.assertEqual(told, endless[0], program)
        else:
            self.assertTrue(told is None or len(told) > longest, program)
        return shapes


class Shapes(unittest.TestCase):
    def test_deeds(self):
        for program, word, told in (
            (("ab", ()), "abba", "abba"), (("ab", (("a", "b", ("put", "b", 0, 0, 0)),)), "ab", "b"),
            (("ab", (("a", "b", ("put", "b", 1, 0, 0)),)), "ab", None),
            (("ab", (("a", "b", ("put", "b", 1, 0, 1)),)), "ab", "ab"),
            (("ab", (("a", "b", ("put", "b", 0, 1, 0)),)), "ab", "bb"),
            (("ab", (("a", "b", ("put", "a", 1, 1, 2)),)), "abab", "aabaab"),
            (("ab", (("", "a", ("put", "b", 1, 1, 1)),)), "aa", "baa"),
            (("ab", (("a", "", ("put", "b", 1, 1, 1)),)), "aa", "aab"),
            (("ab", (("a", "", ("put", "b", 0, 1, 1)),)), "aa", "ab"),
            (("ab", (("a", "", ("put", "a", 0, 1, 0)),)), "a", None),
        ):
            expected = None if told is None else tuple(("sign", letter) for letter in told)
            self.assertEqual(shape_of(program, word), expected, (program, word))
        program = ("ab", (("", "a", ("kern", 1)), ("a", "a", ("kern", 2)), ("a", "", ("kern", 3))))
        self.assertEqual(shape_of(program, "aa"), (("kern", 1), ("sign", "a"), ("kern", 2), ("sign", "a"), ("kern", 3)))

    def test_words_without_a_shape(self):
        self.assertIsNone(shape_of(ENDLESS, "ab"))
        self.assertEqual(shape_of(ENDLESS, "ba"), (("sign", "b"), ("sign", "a")))
        self.assertEqual(endless_word(ENDLESS), "aa")
        # Only pairs that some word comes to count.
        program = ("ab", (("", "a", ("put", "b", 1, 0, 1)), ("a", "a", ("put", "a", 1, 1, 0)), ("b", "a", ("put", "b", 1, 0, 1))))
        self.assertIsNone(endless_word(program))
        self.assertEqual(endless_word(("a", (("a", "", ("put", "a", 1, 1, 0)),))), "a")
        self.assertEqual(endless_word(("ab", (("b", "", ("put", "b", 1, 1, 0)), ("a", "a", ("put", "a", 1, 0, 0))))), "b")

    def test_longest_shapes(self):
        self.assertEqual(len(shape_of(WORDY, "afeababababa")), 1000)
        self.assertEqual(shape_of(WORDY, "afeababababa"), shape_slowly(WORDY, "afeababababa", 10 ** 5))
        for word in ("aaaaabababae", "babababababa"):
            self.assertGreater(len(shape_slowly(WORDY, word, 10 ** 5)), 1000)
            with self.assertRaises(TooMany) as caught:
                shape_of(WORDY, word)
            self.assertEqual(caught.exception.limit, 1000)
        # A word without a shape has none, however much it tells ahead.
        endless = (WORDY[0], WORDY[1][:23] + (("g", "g", ("put", "g", 1, 0, 0)),))
        self.assertIsNone(shape_of(endless, "ggababababab"))

    def test_short_programs(self):
        for rows, error in (((0, 4), None), ((1, 7), TooMany), ((), TooMany)):
            program = without_rows(WORDY, rows)
            for function in (pairs_met, idle_rows):
                self.assertIs(raised(function, (program,)), error, rows)
            if error:
                with self.assertRaises(TooMany) as caught:
                    unlike_word(program, program)
                self.assertEqual(caught.exception.limit, 40)
        self.assertEqual(max(len(told) for _, _, told, _ in pairs_met(without_rows(WORDY, (0, 4)))), 40)
        for function in (pairs_met, idle_rows):
            self.assertIs(raised(function, (ENDLESS,)), Endless)
        # The pair (b, b) is endless, but no word meets it: so the program is calm.
        calm = ("ab", (("", "b", ("put", "a", 1, 0, 1)), ("a", "b", ("put", "a", 0, 0, 0)), ("b", "b", ("put", "b", 1, 1, 0))))
        self.assertEqual([pair[:2] for pair in pairs_met(calm)], [("", "a"), ("", "b"), ("a", ""), ("a", "a"), ("a", "b")])

    def test_pairs_met(self):
        program = ("ab", (("a", "b", ("put", "a", 1, 0, 1)), ("b", "", ("kern", 5))))
        sign = {letter: ("sign", letter) for letter in "ab"}
        self.assertEqual(pairs_met(program), [
            ("", "a", (), "a"), ("", "b", (), "b"), ("a", "", (sign["a"],), ""), ("a", "a", (sign["a"],), "a"),
            ("a", "b", (sign["a"],), "a"), ("b", "", (sign["b"], ("kern", 5)), ""), ("b", "a", (sign["b"],), "a"),
            ("b", "b", (sign["b"],), "b"),
        ])
        pairs_met(program).clear()
        self.assertEqual(len(pairs_met(program)), 8)

    def test_pairs_met_tell_all_shapes(self):
        source = random.Random(41)
        for _ in range(150):
            program = random_program(source, source.choice(["a", "ab", "abc"]), source.randint(0, 5))
            if raised(pairs_met, (program,)) is not None:
                continue
            met = {pair[:2]: pair[2:] for pair in pairs_met(program)}
            self.assertEqual(list(met), sorted(met))
            used = set()
            for word in words_of(program[0], 5 if len(program[0]) < 3 else 4):
                told, standing = (), ""
                for letter in [*word, ""]:
                    used.add((standing, letter))
                    more, standing = met[standing, letter]
                    told += more
                self.assertEqual(told, shape_slowly(program, word))
            self.assertEqual(used, set(met), program)


class AgainstAllShortWords(unittest.TestCase):
    def test_programs(self):
        source = random.Random(42)
        counts = {}
        kept = []
        for _ in range(250):
            letters = source.choice(["a", "ab", "ab", "abc"])
            program = random_program(source, letters, source.randint(0, 6))
            shapes = Programs.check_shapes(self, program, 4)
            if raised(pairs_met, (program,)) is not None:
                continue
            others = [without_rows(program, (at,)) for at in range(len(program[1]))] + [program]
            others += [random_program(source, letters, source.randint(0, 2))]
            others += source.sample([other for other in kept if other[0] == letters] or [program], 1)
            for other in others:
                if raised(pairs_met, (other,)) is None:
                    alike = self.check_both(program, other, shapes)
                    counts[alike] = counts.get(alike, 0) + 1
            self.check_idle(program)
            kept.append(program)
        self.assertGreater(min(counts.values()), 60, counts)

    def check_both(self, one, other, shapes):
        unlike = [word for word in shapes if shapes[word] != shape_slowly(other, word)]
        told = unlike_word(one, other)
        if unlike:
            self.assertEqual(told, unlike[0], (one, other))
        else:
            self.assertTrue(told is None or len(told) > 4, (one, other))
        paper = alike_paper(one, other)
        self.assertEqual(paper is None, told is not None, (one, other))
        if paper is not None:
            self.assertIs(is_alike_paper(one, other, paper), True, (one, other, paper))
            self.assertIs(is_alike_paper(one, other, tuple(reversed(paper))), True)
            self.assertIs(is_alike_paper(one, other, list(paper)), False)
            for at in range(len(paper)):
                self.assertIs(is_alike_paper(one, other, paper[:at] + paper[at + 1:]), False, (one, other, at))
                self.assertIs(is_alike_paper(one, other, paper + paper[at:at + 1]), False)
        return told is None

    def check_idle(self, program):
        expected = []
        for at in range(len(program[1])):
            other = without_rows(program, (at,))
            if raised(pairs_met, (other,)) is None and unlike_word(program, other) is None:
                expected.append(at)
        self.assertEqual(idle_rows(program), expected, program)


class AlikePapers(unittest.TestCase):
    def test_lags(self):
        one, other = self.lagging()
        self.assertIsNone(unlike_word(one, other))
        paper = alike_paper(one, other)
        lag = ((), (("sign", "a"),))
        self.assertEqual(paper, (("", "", ((), ())), ("a", "a", lag)))
        self.assertIs(is_alike_paper(one, other, paper), True)
        for wrong in (
            (("", "", ((), ())),), paper[1:], paper + paper[:1], paper + paper[1:], list(paper), paper + (None,),
            (("", "", ((), ())), ("a", "a", ((), ()))), (("", "", ((), ())), ("a", "a", (lag[1], ()))),
            (("", "", ((), ())), ("a", "a", (lag[1], lag[1]))), (("", "", lag), ("a", "a", lag)),
            (("", "", ((), ())), ["a", "a", lag]), (("", "", ((), ())), ("a", "a", list(lag))),
            (("", "", ((), ())), ("a", "a", ((), [("sign", "a")]))), (("", "", ((), ())), ("a", "a", ((), (["sign", "a"],)))),
            (("", "", ((), ())), ("a", "a", lag), ("", "a", ((), ()))), (("", "", ((), ())), ("a", "a", lag), ("a", "", lag)),
            (("", "", ((), ())), ("a", "a", lag), ("c", "a", lag)), (("", "", ((), ())), (["a"], "a", lag)), (("", "", ((), ())), ("a", ["a"], lag)),
            (("", "", ((), ())), ("a", 5, lag)), (("", "", ((), ())), (None, "a", lag)), (("", "", ((), ())), ("a", "a", lag), ("a", "c", lag)), (("", "", ((), ())), ("a", "a", ((), ("a",)))),
            (("", "", ((), ())), ("a", "a", lag), ("a", "a", lag)), (("", "", ((), ())), ("a", "a", lag), 5),
        ):
            self.assertIs(is_alike_paper(one, other, wrong), False, wrong)
        for value in ODD:
            self.assertIs(is_alike_paper(one, other, value), False, value)

    def lagging(self):
        """One puts an a behind the whole word, the other one ahead of it."""
        one = ("a", (("a", "", ("put", "a", 1, 1, 2)),))
        other = ("a", (("", "a", ("put", "a", 1, 1, 2)),))
        self.assertEqual(shape_of(one, "aa"), shape_of(other, "aa"))
        return one, other

    def test_integers_of_kerns(self):
        one = ("a", (("a", "", ("kern", 1)), ("a", "a", ("kern", 1))))
        other = ("a", (("a", "", ("kern", 1)), ("a", "a", ("kern", 1))))
        self.assertEqual(alike_paper(one, other), (("", "", ((), ())), ("a", "a", ((), ()))))

    def test_true_in_a_lag(self):
        # The one tells a sign and a kern at once, the other one ahead of what comes next.
        both = (
            ("", "b", ("put", "c", 1, 0, 1)), ("b", "a", ("kern", 1)), ("a", "a", ("put", "b", 0, 1, 0)),
            ("b", "c", ("kern", 1)), ("c", "a", ("put", "c", 1, 0, 1)), ("c", "b", ("put", "c", 1, 0, 1)),
        )
        one = ("abc", both + (
            ("", "a", ("put", "b", 1, 1, 1)), ("a", "", ("put", "c", 0, 1, 0)), ("a", "b", ("put", "c", 0, 0, 0)),
            ("a", "c", ("put", "c", 0, 0, 0)),
        ))
        other = ("abc", both + (
            ("a", "", ("put", "b", 0, 1, 0)), ("b", "", ("put", "c", 1, 1, 0)), ("a", "b", ("put", "b", 0, 1, 0)),
            ("b", "b", ("put", "c", 1, 0, 0)), ("a", "c", ("put", "b", 0, 1, 0)),
        ))
        lag = ((("sign", "b"), ("kern", 1)), ())
        paper = (("", "", ((), ())), ("a", "a", lag), ("c", "c", ((), ())))
        self.assertEqual(alike_paper(one, other), paper)
        self.assertIs(is_alike_paper(one, other, paper), True)
        # True is no integer, though it equals 1.
        wrong = (paper[0], ("a", "a", ((("sign", "b"), ("kern", True)), ())), paper[2])
        self.assertEqual(wrong, paper)
        self.assertIs(is_alike_paper(one, other, wrong), False)

    def test_further_triples_are_let(self):
        one = ("ab", ())
        paper = alike_paper(one, one)
        self.assertEqual(paper, (("", "", ((), ())), ("a", "a", ((), ())), ("b", "b", ((), ()))))
        # These two standings never come together, and their ends do not agree, with any lag.
        self.assertIs(is_alike_paper(one, one, paper + (("a", "b", ((), ())),)), False)
        # Both kinds of standings come to the same here, so further ones are let.
        program = ("ab", (("b", "", ("put", "a", 0, 1, 1)), ("b", "a", ("put", "a", 0, 1, 1)), ("b", "b", ("put", "a", 0, 1, 1))))
        paper = alike_paper(program, program)
        self.assertIs(is_alike_paper(program, program, paper + (("a", "b", ((), ())),)), True)
        self.assertIs(is_alike_paper(program, program, paper + (("a", "b", ((), ())), ("b", "a", ((), ())))), True)
        self.assertIs(is_alike_paper(program, program, paper + (("a", "b", ((("sign", "a"),), ())),)), False)

    def test_idle_rows(self):
        for program, told in (
            (("ab", ()), []), (("ab", (("a", "b", ("put", "a", 1, 1, 2)),)), []),
            (("ab", (("a", "b", ("put", "b", 1, 0, 1)),)), [0]),
            (("ab", (("a", "b", ("kern", 0)),)), []),
            (("ab", (("a", "b", ("put", "b", 1, 0, 1)), ("a", "", ("kern", 1)), ("b", "b", ("put", "b", 1, 0, 1)))), [0, 2]),
        ):
            self.assertEqual(idle_rows(program), told, program)
        # A row without which the program is not calm is not idle.
        program = ("ab", (("", "b", ("put", "a", 1, 0, 1)), ("a", "b", ("put", "a", 0, 0, 0)), ("b", "b", ("put", "b", 1, 1, 0))))
        self.assertEqual(idle_rows(program), [2])


if __name__ == "__main__":
    unittest.main()
