"""Lines of passages: what they fit, taken one by one, and rows of widths; against all small widths, and all lines."""

import itertools
import random
import unittest

from settlepages.errors import InvalidIndex
from settlepages.strips import is_passage
from settlepages.taking import fit_between, lines_taken, may_take, some_lines, taking_shown
from settlepages.widthrows import parting_widths, width_rows
from tests.odd import raised
from tests.strips import (
    all_lines, box, do_lines_fit, does_fit_slowly, kern, line_slowly, many_places, place, random_passage, sign, space,
)

GREATEST = 10 ** 9
SMALL = range(0, 31)
E = (
    sign("a"), space(0, 30), place(), sign("b"), space(0, 10), place(), box(sign("c"), sign("c")), space(0, 10), place(),
)


def narrow(width, stretch=0, order=0, shrink=0):
    """Things of a line of a small width."""
    return (sign(), space(width - 10, stretch, order, shrink, 0))


def passages(seed, count, many, **rest):
    source = random.Random(seed)
    found = [random_passage(source, many, **rest) for _ in range(count // 2)]
    for _ in range(count // 2):
        lines = [narrow(source.randint(0, 4), source.choice((0, 0, 1, 2, 6)), 0, source.choice((0, 0, 1, 4))) for _ in range(source.randint(1, many))]
        found.append(tuple(thing for line in lines for thing in (*line, place())))
    source.shuffle(found)
    return [(passage, source.choice((0, 1, 1, 2, 10))) for passage in found if is_passage(passage)]


def taken_slowly(passage, much, width):
    """The lines taken one by one, or None."""
    last, lines = -1, ()
    while last < many_places(passage) - 1:
        fitting = [at for at in range(last + 1, many_places(passage)) if does_fit_slowly(line_slowly(passage, last, at), much, width)]
        if not fitting:
            return None
        last = fitting[-1]
        lines += (last,)
    return lines


def any_fit_slowly(passage, much, width):
    return any(do_lines_fit(passage, much, lines, (width,) * len(lines)) for lines in all_lines(passage))


class Fits(unittest.TestCase):
    def test_against_all_widths(self):
        counts = {"none": 0, "all": 0, "some": 0}
        for passage, much in passages(60, 400, 4):
            for first in range(-1, many_places(passage)):
                for last in range(first + 1, many_places(passage)):
                    line = line_slowly(passage, first, last)
                    fits = fit_between(passage, much, first, last)
                    asked = (*SMALL, 31, 50, 10 ** 6, GREATEST - 1, GREATEST)
                    expected = [width for width in asked if does_fit_slowly(line, much, width)]
                    told = [] if fits is None else [width for width in asked if fits[0] <= width <= fits[1]]
                    self.assertEqual(told, expected, (passage, much, first, last))
                    if fits is not None:
                        least, most = fits
                        self.assertTrue(does_fit_slowly(line, much, least) and does_fit_slowly(line, much, most))
                        self.assertFalse(does_fit_slowly(line, much, least - 1) or does_fit_slowly(line, much, most + 1))
                    counts["none" if fits is None else "all" if fits[1] == GREATEST else "some"] += 1
        self.assertGreater(min(counts.values()), 50, counts)

    def test_lines(self):
        for things, fits in (
            ((), (0, 0)), ((sign(),), (10, 10)), ((space(5, 9, 1, 9, 1), kern(7)), (0, 0)), ((kern(7), sign()), (10, 10)), ((space(5), box(), kern(7)), (7, 7)),
            ((box(sign(), sign()), kern(-3)), (17, 17)), ((sign(), space(5, 2)), (15, 17)), ((sign(), space(5, 2), space(0, 1, 2)), (15, GREATEST)),
            ((sign(), space(5, 2), space(0, 0, 2)), (15, 17)), ((sign(), space(5, 0, 0, 4)), (11, 15)), ((sign(), space(5, 0, 0, 4), space(0, 0, 0, 1, 1)), (0, 15)),
            ((sign(), space(5, 0, 0, 100)), (0, 15)), ((sign(), kern(-10)), (0, 0)), ((sign(), kern(-11)), None), ((sign(), kern(-11), space(0, 1)), (0, 0)),
            ((sign(), kern(-12), space(0, 1)), None), ((sign(), kern(-12), space(0, 1, 1)), (0, GREATEST)), ((sign(), kern(-12), space(0, 0, 0, 9, 1)), None),
            # What stands in a box neither stretches nor shrinks.
            ((box(space(5, 9, 1, 9, 1)),), (5, 5)), ((box(space(5, 9, 0, 9, 0)), sign(), space(0, 1, 0, 1)), (14, 16)),
        ):
            self.assertEqual(fit_between(things + (place(),), 1, -1, 0), fits, things)

    def test_much(self):
        line = (sign(), space(0, 7, 0, 4), space(0, 3), place())
        for much in range(11):
            self.assertEqual(fit_between(line, much, -1, 0), (6, 10 + 10 * much))
        line = (sign(), space(0, 7, 0, 4), space(0, 1, 1), place())
        for much in range(11):
            self.assertEqual(fit_between(line, much, -1, 0), (6, GREATEST))

    def test_places(self):
        # Places between are things without a width; those in boxes are no places of the passage.
        passage = (sign(), place(), kern(3), place(9), box(place(), sign(), place()), place(), space(4), place())
        self.assertEqual([fit_between(passage, 1, first, last) for first, last in itertools.combinations(range(-1, 4), 2)], [
            (10, 10), (13, 13), (23, 23), (27, 27), (0, 0), (10, 10), (14, 14), (10, 10), (14, 14), (0, 0),
        ])
        for first, last in ((-2, 0), (4, 4), (3, 4), (3, 3), (0, 0), (1, 0), (-1, -1), (-1, 4), (True, 2), (-1, True), ("0", 1), (0, None), (None, None)):
            self.assertIs(raised(fit_between, (passage, 1, first, last)), InvalidIndex, (first, last))


class Taking(unittest.TestCase):
    def test_against_all_widths(self):
        counts = {True: 0, False: 0, "stopped": 0}
        for passage, much in passages(61, 500, 5):
            holds = True
            for width in (*SMALL, 10 ** 6, GREATEST):
                taken = taken_slowly(passage, much, width)
                fit = any_fit_slowly(passage, much, width)
                self.assertEqual(lines_taken(passage, much, width), taken, (passage, much, width))
                lines = some_lines(passage, much, width)
                self.assertIs(lines is not None, fit, (passage, much, width))
                if fit:
                    self.assertIn(lines, all_lines(passage))
                    self.assertTrue(do_lines_fit(passage, much, lines, (width,) * len(lines)))
                    holds = holds and taken is not None
                counts["stopped"] += fit and taken is None
            shown = taking_shown(passage, much)
            self.assertIs(may_take(passage, much), shown is None)
            if not holds:
                self.assertIsNotNone(shown, (passage, much))
            if shown is not None:
                self.assertTrue(any_fit_slowly(passage, much, shown))
                self.assertIsNone(taken_slowly(passage, much, shown))
            counts[shown is None] += 1
        self.assertGreater(min(counts.values()), 15, counts)

    def test_fixed_passages(self):
        self.assertEqual([lines_taken(E, 1, width) for width in (19, 20, 30, 31, 39, 40, 90, 91)], [None, (1, 2), (1, 2), None, None, (2,), (2,), None])
        self.assertIsNone(lines_taken(E, 1, -5))
        self.assertIsNone(some_lines(E, 1, -5))
        self.assertIsNone(lines_taken(E, 1, GREATEST))
        self.assertEqual(lines_taken((place(),), 0, 0), (0,))
        self.assertIsNone(lines_taken((place(),), 0, 1))
        self.assertEqual(some_lines((place(),) * 10, 0, 0)[-1], 9)
        self.assertEqual(lines_taken((place(),) * 10, 0, 0), (9,))

    def test_a_stop_where_some_lines_fit(self):
        # The first line can go further, but then the last one is left with nothing to stretch.
        passage = (*narrow(5, 5), place(), *narrow(5), place(), *narrow(5, 5), place())
        self.assertEqual(some_lines(passage, 1, 10), (0, 2))
        self.assertEqual(lines_taken(passage, 1, 10), (1, 2))
        passage = (*narrow(5, 5), place(), *narrow(5), place(), *narrow(5), place())
        self.assertEqual(some_lines(passage, 1, 10), (0, 2))
        self.assertIsNone(lines_taken(passage, 1, 10))
        self.assertIs(may_take(passage, 1), False)
        self.assertEqual(taking_shown(passage, 1), 10)

    def test_one_width_alone_and_all_from_some_on(self):
        passage = (*narrow(5, 1, 1), place(), *narrow(5, 0), place(), *narrow(5, 1, 1), place())
        self.assertEqual(lines_taken(passage, 0, 5), (0, 1, 2))
        self.assertEqual(lines_taken(passage, 0, GREATEST), (2,))
        self.assertIs(may_take(passage, 0), True)
        # For one width alone some lines fit, and it stops: behind the greatest one of a line.
        passage = (*narrow(10, 40), place(), *narrow(5), place(), *narrow(27, 13), place())
        self.assertEqual([fit_between(passage, 1, first, last) for first, last in itertools.combinations(range(-1, 3), 2)], [
            (10, 50), (15, 55), (42, 95), (5, 5), (32, 45), (27, 40),
        ])
        self.assertEqual([lines_taken(passage, 1, width) for width in (40, 41, 42)], [(1, 2), None, (2,)])
        self.assertEqual(some_lines(passage, 1, 41), (0, 2))
        self.assertEqual(taking_shown(passage, 1), 41)


def rows_slowly(passage, much, many):
    """The rows of pairs of all lines, and those that lie within no other one."""
    rows = set()
    for lines in all_lines(passage, many):
        row = tuple(fit_between(passage, much, first, last) for first, last in zip((-1, *lines), lines))
        if None not in row:
            rows.add(row)
    return rows, sorted(
        row for row in rows
        if not any(row != other and all(two[0] <= one[0] <= one[1] <= two[1] for one, two in zip(row, other)) for other in rows)
    )


class WidthRows(unittest.TestCase):
    def test_against_all_lines(self):
        within = 0
        for passage, much in passages(62, 300, 6):
            for many in (1, 2, 3):
                rows, expected = rows_slowly(passage, much, many)
                self.assertEqual(width_rows(passage, much, many), expected, (passage, much, many))
                within += len(rows) > len(expected)
        self.assertGreater(within, 20)

    def test_rows(self):
        # Equal rows stand once, and one that lies within another one does not.
        passage = (*narrow(5, 3), place(), place(), *narrow(5, 3), place())
        self.assertEqual(rows_slowly(passage, 1, 2)[0], {((5, 8), (5, 8))})
        self.assertEqual(width_rows(passage, 1, 2), [((5, 8), (5, 8))])
        self.assertEqual(width_rows(passage, 1, 3), [((5, 8), (0, 0), (5, 8))])
        self.assertEqual(width_rows(passage, 1, 1), [((10, 16),)])
        self.assertEqual(width_rows((place(),), 1, 1), [((0, 0),)])
        self.assertEqual(width_rows((place(),), 1, 2), [])
        self.assertEqual(width_rows((sign(), kern(-11), place()), 1, 1), [])
        passage = (*narrow(5, 1, 1), place(), *narrow(0), place(), *narrow(5), place())
        self.assertEqual(width_rows(passage, 1, 2), [((5, GREATEST), (5, 5))])
        # Each pair lies within one of other rows, but not of one and the same.
        passage = (*narrow(2, 3), place(), *narrow(0, 2), place(), *narrow(2, 1), place())
        self.assertEqual(width_rows(passage, 1, 2), [((2, 5), (2, 5)), ((2, 7), (2, 3))])

    def test_parting_widths_against_all_small_widths(self):
        source = random.Random(63)
        counts = {}
        found = passages(64, 300, 4, widths=(-9, -9, -10, 0, 1), great=2)
        for passage, much in found:
            beside = list(passage)
            if source.random() < 0.7:
                beside[source.randrange(len(beside) - 1) if len(beside) > 1 else 0] = source.choice((place(), sign(), space(1, 1)))
            beside = tuple(beside)
            if source.random() < 0.2:
                beside = source.choice(found)[0]
            if not is_passage(beside):
                continue
            for many in (1, 2, 3):
                top = {1: 40, 2: 16, 3: 9}[many]
                told = parting_widths(passage, beside, much, many)
                self.assertEqual(told, parting_widths(beside, passage, much, many))
                first = None
                for widths in itertools.product(range(top), repeat=many):
                    if self.fit(passage, much, widths) != self.fit(beside, much, widths):
                        first = widths
                        break
                if told is not None:
                    self.assertNotEqual(self.fit(passage, much, told), self.fit(beside, much, told))
                if told is not None and max(told) < top:
                    self.assertEqual(told, first, (passage, beside, much, many))
                elif first is not None:
                    self.assertLess(told, first, (passage, beside, much, many))
                key = (many, "none" if told is None else "small" if max(told) < top else "great")
                counts[key] = counts.get(key, 0) + 1
        self.assertGreater(min(counts[(many, word)] for many in (1, 2, 3) for word in ("none", "small")), 30, counts)

    def fit(self, passage, much, widths):
        return any(do_lines_fit(passage, much, lines, widths) for lines in all_lines(passage, len(widths)))

    def test_parting_widths(self):
        self.assertIsNone(parting_widths(E, E, 1, 2))
        self.assertIsNone(parting_widths((place(),), (kern(3), place()), 1, 1))
        self.assertEqual(parting_widths((place(),), (sign(), place()), 1, 1), (0,))
        self.assertEqual(parting_widths(E, (place(),), 1, 2), (10, 30))
        self.assertEqual(parting_widths(E, E[:5] + E[6:], 1, 2), (20, 20))
        # Just the last of three widths tells them apart, and just the greatest one.
        one = (*narrow(5), place(), *narrow(5), place(), *narrow(5, 4), place())
        other = (*narrow(5), place(), *narrow(5), place(), *narrow(5, 3), place())
        self.assertEqual(parting_widths(one, other, 1, 3), (5, 5, 9))
        one = (*narrow(5, 1, 1), place())
        self.assertEqual(parting_widths(one, (*narrow(6, 1, 1), place()), 1, 1), (5,))
        self.assertEqual(parting_widths(one, (*narrow(5, 100), place()), 10, 1), (1006,))
        # One row of widths that two others put together cover.
        whole = (*narrow(2, 4), place())
        self.assertIsNone(parting_widths(whole, (*narrow(2, 2), space(0, 2), place()), 1, 1))

    def test_ten_places(self):
        passage = ()
        for at in range(10):
            passage += (*narrow(5 + at, 1 + at % 3, 0, at % 4), place())
        self.assertTrue(is_passage(passage))
        self.assertEqual(width_rows(passage, 2, 3), rows_slowly(passage, 2, 3)[1])
        beside = passage[:-2] + (space(4, 2, 0, 1, 0), place())
        told = parting_widths(passage, beside, 2, 3)
        self.assertNotEqual(self.fit(passage, 2, told), self.fit(beside, 2, told))
        self.assertIs(may_take(passage, 1), taking_shown(passage, 1) is None)


if __name__ == "__main__":
    unittest.main()
