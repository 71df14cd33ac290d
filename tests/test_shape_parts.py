"""Where words may be cut, words for shapes, and how far changes are felt, against all short words."""

import itertools
import random
import unittest

from settlepages.pairshapes import pairs_met
from settlepages.shapecuts import cut_pairs, uncut_words
from settlepages.shapefinds import felt_far, felt_words, word_for
from tests.odd import raised
from tests.programs import WORDY, without_rows
from tests.test_shapes import random_program, shape_slowly, words_of

NEVER_FELT = ("ab", (("", "a", ("put", "b", 1, 0, 1)), ("b", "a", ("put", "b", 1, 0, 1))))


def standing_slowly(program, word):
    """The standing behind a word: what is at the hand when the row is just this and the edge."""
    deeds = {(left, right): deed for left, right, deed in program[1]}
    row = ["", *word]
    for _ in range(10000):
        if len(row) == 1:
            return row[0]
        deed = deeds.get((row[0], row[1]))
        if deed is None or deed[0] == "kern":
            row = row[1:]
        else:
            _, letter, keeps_left, keeps_right, on = deed
            row = ([row[0]] * keeps_left + [letter] + [row[1]] * keeps_right)[on:] + row[2:]
    raise AssertionError(program)


def felt_slowly(program, one, other):
    first = next(at for at in range(len(one)) if one[at] != other[at])
    ends = range(first + 1, len(one) + 1)
    return sum(standing_slowly(program, one[:end]) != standing_slowly(program, other[:end]) for end in ends)


def are_change(one, other):
    return len(one) == len(other) and sum(a != b for a, b in zip(one, other)) == 1


def short_programs(seed, many, letters=("a", "ab", "ab", "abc")):
    source = random.Random(seed)
    found = []
    while len(found) < many:
        program = random_program(source, source.choice(letters), source.randint(0, 6))
        if raised(pairs_met, (program,)) is None:
            found.append(program)
    return found


class Cuts(unittest.TestCase):
    def check_cuts(self, program, longest):
        letters = program[0]
        shapes = {word: shape_slowly(program, word, 10 ** 5) for word in words_of(letters, 2 * longest)}
        words = words_of(letters, longest)
        pairs = cut_pairs(program)
        self.assertEqual(pairs, sorted(set(pairs)))
        for first, second in itertools.product(letters, repeat=2):
            split = [
                (one, other) for one in words if one[-1] == first for other in words if other[0] == second
                and shapes[one + other] != shapes[one] + shapes[other]
            ]
            told = uncut_words(program, first, second)
            self.assertEqual((first, second) in pairs, told is None, (program, first, second))
            if split:
                self.assertIsNotNone(told, (program, first, second, split[0]))
                self.assertLessEqual(len(told[0] + told[1]), min(len(one + other) for one, other in split))
            if told is not None:
                self.assertIsInstance(told, tuple)
                one, other = told
                self.assertEqual((one[-1], other[0]), (first, second))
                both = [shape_slowly(program, word, 10 ** 5) for word in (one + other, one, other)]
                self.assertNotEqual(both[0], both[1] + both[2], (program, told))

    def test_programs(self):
        for program in short_programs(63, 160):
            self.check_cuts(program, 3 if len(program[0]) < 3 else 2)

    def test_edges(self):
        letters = tuple(itertools.product("ab", repeat=2))
        for rows, told in (
            ((), letters),
            # At the edges nothing may be put, or kerned, that is not there within a word.
            ((("", "a", ("kern", 1)),), letters[1::2]),
            ((("a", "", ("kern", 1)),), letters[2:]),
            ((("", "a", ("kern", 0)), ("a", "a", ("kern", 0)), ("b", "a", ("kern", 0))), letters),
            ((("a", "b", ("put", "b", 0, 1, 1)),), (letters[0],) + letters[2:]),
            # A letter that goes, but only behind a longer way.
            ((("a", "b", ("put", "a", 1, 0, 1)), ("b", "b", ("kern", 3))), letters[:1] + letters[2:3]),
        ):
            self.assertEqual(cut_pairs(("ab", rows)), list(told), rows)
            self.check_cuts(("ab", rows), 3)
        self.assertEqual(uncut_words(("ab", (("a", "b", ("kern", 1)),)), "a", "b"), ("a", "b"))

    def test_words_that_part_late(self):
        # The first letter of the word behind tells nothing yet: both go on from unlike standings, whose ends agree.
        turning = (("a", "a", ("put", "b", 0, 1, 0)), ("a", "", ("put", "b", 0, 1, 1)), ("b", "b", ("put", "a", 1, 0, 1)), ("b", "a", ("kern", -1)))
        ending = (("b", "", ("put", "a", 0, 1, 1)), ("", "b", ("put", "a", 1, 0, 0)))
        for rows, pair, told in (
            (turning, "aa", ("a", "a")), (turning, "bb", ("b", "bb")), (ending, "ab", ("a", "ba")), (ending, "bb", ("b", "ba")), (ending, "ba", ("ab", "a")),
            (ending, "aa", None),
        ):
            self.check_cuts(("ab", rows), 3)
            self.assertEqual(uncut_words(("ab", rows), pair[0], pair[1]), told)

    def test_great_programs(self):
        program = without_rows(WORDY, (0, 4))
        pairs = cut_pairs(program)
        self.assertTrue(0 < len(pairs) < 64)
        for first, second in itertools.product(program[0], repeat=2):
            told = uncut_words(program, first, second)
            self.assertEqual(told is None, (first, second) in pairs)


class Finds(unittest.TestCase):
    def test_words_for_shapes(self):
        source = random.Random(64)
        for program in short_programs(64, 120):
            words = words_of(program[0], 6 if len(program[0]) < 3 else 5)
            first = {}
            for word in words:
                first.setdefault(shape_slowly(program, word), word)
            for shape in source.sample(list(first), min(60, len(first))):
                if len(shape) <= 40:
                    self.assertEqual(word_for(program, shape), first[shape], (program, shape))
                for other in (shape[1:], shape + shape[:1], shape[:-1] + (("sign", "z"),), shape + (("kern", 9),)):
                    if len(other) <= 40:
                        told = word_for(program, other)
                        if other in first:
                            self.assertEqual(told, first[other], (program, other))
                        elif told is not None:
                            self.assertGreater(len(told), len(words[-1]))
                            self.assertEqual(shape_slowly(program, told), other)

    def test_edges_of_finds(self):
        self.assertIsNone(word_for(("ab", ()), ()))
        self.assertIsNone(word_for(("ab", ()), (("sign", "c"),)))
        self.assertIsNone(word_for(("ab", ()), (("kern", 99), ("kern", -99))))
        self.assertEqual(word_for(("ab", ()), tuple(("sign", sign) for sign in "ab" * 20)), "ab" * 20)
        # Two words have this shape: the least one is told, though the other one is found in Python's order first.
        program = ("ab", (("a", "a", ("put", "b", 0, 0, 0)),))
        self.assertEqual(word_for(program, (("sign", "b"),)), "b")
        program = ("ab", (("b", "b", ("put", "a", 0, 0, 0)), ("b", "a", ("put", "b", 0, 0, 0))))
        self.assertEqual(word_for(program, (("sign", "b"),)), "b")
        program = ("ab", (("", "b", ("put", "a", 1, 0, 1)),))
        self.assertEqual(word_for(program, (("sign", "a"), ("sign", "b"))), "ab")
        # A long word for a short shape: each letter but the last one goes.
        program = ("ab", (("a", "a", ("put", "b", 0, 0, 0)), ("b", "a", ("put", "b", 0, 0, 0)), ("a", "", ("kern", 1))))
        self.assertEqual(word_for(program, (("sign", "b"),)), "b")
        self.assertEqual(word_for(program, (("sign", "a"), ("kern", 1))), "a")


class Felt(unittest.TestCase):
    def test_changes(self):
        fars = set()
        for program in short_programs(65, 200) + short_programs(66, 40, ("abcd",)):
            longest = 6 if len(program[0]) < 3 else 4
            most = 0
            for length in range(1, longest + 1):
                words = ["".join(some) for some in itertools.product(program[0], repeat=length)]
                for one, other in itertools.combinations(words, 2):
                    if are_change(one, other):
                        most = max(most, felt_slowly(program, one, other))
            far = felt_far(program)
            fars.add(far)
            # That it comes so far is seen by the words that are told.
            if far is None:
                self.assertGreater(most, 0, program)
            else:
                self.assertGreaterEqual(far, most, program)
            if len(program[0]) > 1:
                self.check_words(program, far)
            else:
                self.assertEqual(far, 0)
        self.assertTrue({None, 0, 1, 2} <= fars, fars)

    def check_words(self, program, far):
        told = felt_words(program)
        self.assertIsInstance(told, tuple)
        one, other = told[:2]
        self.assertTrue(are_change(one, other), (program, told))
        if far is not None:
            self.assertEqual(len(told), 2)
            self.assertEqual(felt_slowly(program, one, other), far, (program, told))
            return
        again = told[2]
        self.assertGreater(len(again), 0)
        standings = [standing_slowly(program, word) for word in (one, other)]
        self.assertNotEqual(standings[0], standings[1])
        self.assertEqual([standing_slowly(program, word + again) for word in (one, other)], standings, (program, told))

    def test_edges_of_changes(self):
        for program, far in (
            (("a", ()), 0), (("a", (("a", "a", ("put", "a", 0, 0, 0)),)), 0), (("ab", ()), 1), (NEVER_FELT, 0),
            (("ab", (("a", "b", ("put", "a", 1, 0, 0)),)), None),
            # Both standings change their places with each letter.
            (("ab", (
                ("a", "a", ("put", "b", 1, 0, 1)), ("a", "b", ("put", "b", 1, 0, 1)), ("b", "a", ("put", "a", 1, 0, 1)),
                ("b", "b", ("put", "a", 1, 0, 1)),
            )), None),
            (("abc", (("a", "c", ("put", "a", 1, 0, 1)), ("b", "c", ("put", "b", 1, 0, 1)), ("c", "c", ("put", "a", 0, 0, 0)))), None),
        ):
            self.assertEqual(felt_far(program), far, program)
            if len(program[0]) > 1:
                self.check_words(program, far)

    def test_changes_that_lead_to_further_standings(self):
        for rows in (
            (("d", "a", ("put", "b", 1, 1, 0)), ("a", "d", ("put", "b", 0, 0, 0)), ("b", "a", ("put", "c", 0, 0, 0))),
            (("a", "c", ("put", "b", 1, 1, 0)), ("c", "a", ("put", "b", 0, 0, 0)), ("a", "d", ("put", "b", 1, 0, 0)), ("d", "a", ("put", "b", 1, 1, 1))),
        ):
            self.assertEqual(felt_far(("abcd", rows)), 3)
            self.check_words(("abcd", rows), 3)

    def test_a_change_that_is_felt_for_a_while(self):
        # Each a goes one letter on in the alphabet, up to e.
        steps = tuple((one, "a", ("put", other, 0, 0, 0)) for one, other in zip("bcd", "cde"))
        program = ("abcde", steps + (("e", "a", ("put", "e", 0, 0, 0)), ("a", "a", ("put", "e", 0, 0, 0))))
        self.assertEqual(felt_far(program), 3)
        self.check_words(program, 3)


if __name__ == "__main__":
    unittest.main()
