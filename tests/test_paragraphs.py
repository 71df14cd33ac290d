"""Paragraphs: costs, least ways, papers of prices, keys, and dropping, against all ways of small paragraphs."""

import itertools
import random
import unittest

from settlepages.linedrops import dropped_pair, dropping_way, is_safe
from settlepages.linekeys import do_split, is_enough, key_way, parting_pair, parting_paragraph
from settlepages.paragraphs import are_costs, is_paragraph, is_price_paper, least_way, price_paper, way_cost
from tests.lines import (
    FULL, all_ways, breaker_slowly, cost_slowly, cost_upto, enough_slowly, least_slowly, line_told, random_costs, random_key,
    random_paragraph, taken,
)
from tests.odd import ODD

END = ("end",)
FLAT = ((10,), 0, 0, 0, (0, 0))
LEAST = -(10 ** 100)


def place(price, marked=None, ahead=0, behind=0, joined=0):
    return ("place", price, marked, ahead, behind, joined)


class Costs(unittest.TestCase):
    def test_ways_and_least_ways(self):
        source = random.Random(28)
        counts = {}
        for _ in range(700):
            paragraph, costs = random_paragraph(source), random_costs(source)
            self.assertIs(is_paragraph(paragraph), True)
            self.assertIs(are_costs(costs), True)
            ways = all_ways(paragraph)
            for way in source.sample(ways, min(20, len(ways))):
                self.assertEqual(way_cost(paragraph, costs, way), cost_slowly(paragraph, costs, way), (paragraph, costs, way))
            least, told = least_slowly(paragraph, costs), least_way(paragraph, costs)
            counts[least is None] = counts.get(least is None, 0) + 1
            self.assertEqual(told is None, least is None, (paragraph, costs))
            if told is not None:
                self.assertEqual(cost_slowly(paragraph, costs, told), least, (paragraph, costs, told))
        self.assertGreater(min(counts.values()), 100, counts)

    def cost_of_line(self, natural, stretch, shrink, costs, behind=()):
        """The cost of a first line with these sums, up to a place, behind which nothing more costs."""
        paragraph = (("box", 500), ("gap", natural - 500, stretch, shrink), place(0)) + behind
        return way_cost(paragraph, costs, ((2, "plain"),))

    def test_badness(self):
        for natural, stretch, shrink, badness in (
            (100, 0, 0, 0), (100, 7, 7, 0), (99, 0, 0, 10000), (99, 0, 9, 10000), (99, 1, 0, 100), (99, 2, 0, 25), (99, 3, 0, 11),
            (90, 1, 0, 10000), (91, 1, 0, 8100), (89, 1, 0, 10000), (0, 10, 0, 10000), (0, 11, 0, 8264), (101, 0, 0, None), (101, 0, 1, 100),
            (102, 9, 1, None), (102, 9, 2, 100), (102, 9, 3, 44), (110, 0, 10, 100), (110, 0, 30, 11), (111, 0, 10, None),
        ):
            self.assertEqual(self.cost_of_line(natural, stretch, shrink, ((100,), 1, 0, 0, (0, 0))), badness, (natural, stretch, shrink))

    def test_tightness(self):
        # Behind it stands a line of tightness 0, then 2: what near costs tells the tightness of the line, if it is below 2.
        for natural, stretch, shrink, tightness in (
            (100, 0, 0, 2), (99, 0, 0, 0), (99, 1, 0, 1), (98, 1, 0, 0), (98, 2, 0, 1), (99, 2, 0, 2), (98, 3, 0, 1), (99, 3, 0, 2), (95, 10, 0, 2),
            (94, 10, 0, 1), (90, 10, 0, 1), (89, 10, 0, 0), (101, 0, 1, 3), (101, 0, 2, 2), (102, 0, 3, 3), (101, 0, 3, 2), (105, 0, 10, 2), (106, 0, 10, 3),
            (110, 0, 10, 3),
        ):
            self.assertEqual(self.cost_of_line(natural, stretch, shrink, ((100,), 0, 7, 0, (0, 0))), 7 if tightness == 0 else 0)
            filled = (("gap", 1, 0, 0), ("box", 100), place(0), ("box", 1), ("gap", 98, 1, 0), place(0), ("box", 100))
            for box, inner in ((place(0, None, 0, 0, 0), 0), (("box", 100), 2)):
                paragraph = (("box", 500), ("gap", natural - 500, stretch, shrink), place(0), ("box", 0), box, place(0), ("box", 100))
                expected = 7 * (abs(tightness - inner) >= 2) + 7 * (abs(inner - 2) >= 2)
                self.assertEqual(way_cost(paragraph, ((100,), 0, 7, 0, (0, 0)), ((2, "plain"), (5, "plain"))), expected, (natural, box))
            self.assertEqual(len(filled), 7)

    def test_last_lines(self):
        costs = ((100,), 1, 7, 0, (0, 0))
        for last, cost in ((100, 0), (99, 0), (0, 0), (101, None)):
            for ending in ((), (END,)):
                self.assertEqual(way_cost((("box", last),) + ending, costs, ()), cost)
        self.assertEqual(way_cost((("box", 101), ("gap", 0, 0, 1)), costs, ()), 100)
        self.assertEqual(way_cost((("box", 102), ("gap", 0, 0, 4), END), costs, ()), 25)
        # Ends take part in near, and marks on either side of one are not one behind the other.
        self.assertEqual(way_cost((("gap", 104, 0, 4), END, place(0)), costs, ((2, "plain"),)), 100 + 7 + 10000 + 7)
        self.assertEqual(way_cost((("gap", 104, 0, 4), END, ("gap", 104, 0, 4)), costs, ()), 200)
        marks = (place(None, 1), ("box", 0), place(None, 2))
        twice = ((10,), 0, 0, 5, (0, 0))
        self.assertEqual(way_cost(marks, twice, ((0, "marked"), (2, "marked"))), 8)
        self.assertEqual(way_cost(marks[:1] + (END,) + marks[2:], twice, ((0, "marked"), (2, "marked"))), 3)
        between = (place(None, 1), place(0, 0), place(None, 2))
        self.assertEqual(way_cost(between, twice, ((0, "marked"), (1, "plain"), (2, "marked"))), 3)
        self.assertEqual(way_cost(between, twice, ((0, "marked"), (1, "marked"), (2, "marked"))), 13)
        self.assertEqual(way_cost(between, twice, ((0, "marked"), (2, "marked"))), 8)

    def test_lengths_at_places(self):
        for paragraph, way, natural in (
            ((place(0, None, 7, 0, 0),), ((0, "plain"),), 7), ((("box", 5), place(0, None, 7, 0, 0)), ((1, "plain"),), 12),
            ((place(0, None, 7, 9, 2), place(0)), ((1, "plain"),), 2), ((("gap", 4, 0, 0), place(0)), ((1, "plain"),), 4),
            ((("gap", -4, 0, 0), ("box", 5), place(0)), ((2, "plain"),), 1),
        ):
            self.assertEqual(way_cost(paragraph, ((max(natural, 10),), 1, 0, 0, (0, 0)), way), 10000 if natural < 10 else 0)
            if natural > 10:
                self.assertIsNone(way_cost(paragraph, ((natural - 1,), 1, 0, 0, (0, 0)), way))
        # Gaps directly behind a place at which a line begins are left out, up to the first other item.
        for items, last in (
            ((("gap", 50, 0, 0), ("gap", 50, 0, 0), ("box", 9)), 9), ((("gap", 50, 0, 0), ("box", 0), ("gap", 50, 0, 0)), 50),
            ((("box", 1), ("gap", 50, 0, 0)), 51), ((("gap", 50, 0, 0), place(0, None, 1, 2, 3), ("gap", 40, 0, 0)), 43),
        ):
            for width, let in ((max(last, 10), True), (last - 1, last - 1 < 10)):
                costs = ((10, max(width, 10)), 0, 0, 0, (0, 0))
                self.assertEqual(way_cost((place(0),) + items, costs, ((0, "plain"),)), 0 if let else None, (items, width))
        # At the beginning, and behind an end, they are not.
        gap = (("gap", 50, 0, 0), ("box", 1))
        self.assertEqual([way_cost(gap, ((width,), 0, 0, 0, (0, 0)), ()) for width in (51, 50)], [0, None])
        self.assertEqual([way_cost((END,) + gap, ((10, width), 0, 0, 0, (0, 0)), ()) for width in (51, 50)], [0, None])
        # The behind of a place at which a line begins, and the stretch and shrink of what is left out.
        self.assertIsNone(way_cost((place(0, None, 0, 11, 0),), FLAT, ((0, "plain"),)))
        self.assertEqual(way_cost((place(0, None, 0, 10, 0),), FLAT, ((0, "plain"),)), 0)
        self.assertIsNone(way_cost((place(0), ("gap", 0, 0, 9), ("box", 11)), FLAT, ((0, "plain"),)))

    def test_widths_by_the_number_of_the_line(self):
        costs = ((10, 20, 30), 1, 0, 0, (0, 0))
        filled = (("box", 10), END, ("box", 20), END, ("box", 30), END, ("box", 30))
        self.assertEqual(way_cost(filled, costs, ()), 0)
        for at in (0, 2, 4, 6):
            wide = filled[:at] + (("box", filled[at][1] + 1),) + filled[at + 1:]
            self.assertIsNone(way_cost(wide, costs, ()))

    def test_wishes(self):
        paragraph = (place(0), END, place(0))
        for way, lines in (((), 2), (((0, "plain"),), 3), (((0, "plain"), (2, "plain")), 4)):
            for number in (0, 1, 2, 3, 4, 9, 1000):
                self.assertEqual(way_cost(paragraph, ((10,), 0, 0, 0, (number, 6)), way), 6 * abs(lines - number))
        self.assertEqual(way_cost((), ((10,), 0, 0, 0, (0, 1000)), ()), 1000)
        self.assertEqual(way_cost((), FLAT, ()), 0)

    def test_sixty_items(self):
        paragraph = (place(-1, -2),) * 60
        self.assertIs(is_paragraph(paragraph), True)
        self.assertIs(is_paragraph(paragraph + (END,)), False)
        self.assertEqual(least_way(paragraph, ((10,), 0, 0, 0, (0, 0))), tuple((at, "marked") for at in range(60)))
        told = least_way(paragraph, ((10,), 0, 0, 3, (0, 0)))
        self.assertEqual(way_cost(paragraph, ((10,), 0, 0, 3, (0, 0)), told), -90)
        # The last line is as no other one, so a way pays near once, or nothing.
        self.assertEqual(way_cost(paragraph, ((10,), 0, 500, 0, (61, 1000)), least_way(paragraph, ((10,), 0, 500, 0, (61, 1000)))), 500 - 120)
        self.assertEqual(least_way((END,) * 60, FLAT), ())
        self.assertEqual(least_way((("box", 1000),) * 60, FLAT), None)
        self.assertEqual(price_paper((END,) * 60, FLAT), (0, tuple((at, at + 1, 2, "plain", 0) for at in range(60))))

    def test_prices(self):
        great = (place(10 ** 9, -(10 ** 9)), END, place(-(10 ** 9)))
        self.assertEqual(least_way(great, FLAT), ((0, "marked"), (2, "plain")))
        self.assertEqual(way_cost(great, FLAT, ((0, "marked"), (2, "plain"))), -2 * 10 ** 9)


class PricePapers(unittest.TestCase):
    def states_slowly(self, paragraph, costs):
        """All (index, lines, tightness, how) to which lines lead, none of them too wide, with the least cost so far."""
        states = {}
        for way in all_ways(paragraph):
            hows = dict(way)
            stops = taken(paragraph, way)[:-1]
            for many in range(1, len(stops) + 1):
                found = cost_upto(paragraph, costs, way, stops[:many])
                if found is not None:
                    state = (stops[many - 1], many, found[1], hows.get(stops[many - 1], "plain"))
                    states[state] = min(states.get(state, found[0]), found[0])
        return states

    def is_paper_slowly(self, paragraph, costs, least, prices):
        """Whether each price is let, line by line."""
        widths, weight, near, twice, wish = costs
        ends = [at for at, item in enumerate(paragraph) if item == END]
        sources = {(-1, 0, None, "plain"): 0, **prices}
        for source, price in sources.items():
            for stop in [state[0] for state in prices] + [len(paragraph)]:
                if stop <= source[0] or any(source[0] < end < stop for end in ends):
                    continue
                told = line_told(paragraph, costs, source[0], stop, source[1])
                if told is None:
                    continue
                cost = price + weight * told[0] + near * (source[2] is not None and abs(source[2] - told[1]) >= 2)
                if stop == len(paragraph):
                    if least > cost + wish[1] * abs(source[1] + 1 - wish[0]):
                        return False
                    continue
                for at, how in ((1, "plain"), (2, "marked")):
                    item = paragraph[stop]
                    own = 0 if item == END else item[at]
                    if own is not None and not (item == END and how == "marked"):
                        both = source[0] >= 0 and paragraph[source[0]] != END and source[3] == how == "marked"
                        if prices[(stop, source[1] + 1, told[1], how)] > cost + own + twice * both:
                            return False
        return True

    def test_papers(self):
        source = random.Random(32)
        counts = {}
        for _ in range(220):
            paragraph, costs = random_paragraph(source, 9, 4), random_costs(source)
            states = self.states_slowly(paragraph, costs)
            least, told = least_slowly(paragraph, costs), price_paper(paragraph, costs)
            counts[least is None] = counts.get(least is None, 0) + 1
            if least is None:
                self.assertIsNone(told)
                # With no line behind the last item, any least is one.
                told = (10 ** 99, tuple((*state, states[state]) for state in sorted(states)))
            else:
                self.assertEqual(told, (least, tuple((*state, states[state]) for state in sorted(states))), (paragraph, costs))
                self.assertIs(is_price_paper(paragraph, costs, (least + 1, told[1])), False)
                self.assertIs(is_price_paper(paragraph, costs, (LEAST, told[1])), True)
                self.assertIs(is_price_paper(paragraph, costs, (LEAST - 1, told[1])), False)
            self.assertIs(is_price_paper(paragraph, costs, told), True)
            self.check_changed(source, paragraph, costs, told)
        self.assertGreater(min(counts.values()), 30)

    def check_changed(self, source, paragraph, costs, told):
        least, rows = told
        lowest = tuple((*row[:4], LEAST) for row in rows)
        expected = self.is_paper_slowly(paragraph, costs, LEAST, {row[:4]: row[4] for row in lowest})
        self.assertIs(is_price_paper(paragraph, costs, (LEAST, lowest)), expected)
        for at in range(len(rows)):
            self.assertIs(is_price_paper(paragraph, costs, (least, rows[:at] + rows[at + 1:])), False)
            self.assertIs(is_price_paper(paragraph, costs, (least, rows[:at] + rows[at:at + 1] + rows[at:])), False)
            for change in (1, -1, source.randint(-9, 0)):
                prices = {row[:4]: row[4] for row in rows}
                prices[rows[at][:4]] += change
                value = (least, tuple((*state, price) for state, price in prices.items()))
                expected = self.is_paper_slowly(paragraph, costs, least, prices)
                self.assertEqual(is_price_paper(paragraph, costs, value), expected, (paragraph, costs, value))
                if change == 1:
                    self.assertIs(expected, False)
            index, lines, tightness, how, price = rows[at]
            for wrong in ((index, lines, tightness ^ 1, how), (index, lines + 9, tightness, how), (index + 1, lines, tightness, how),
                          (index, lines, tightness, {"plain": "marked", "marked": "plain"}[how])):
                if wrong not in [row[:4] for row in rows]:
                    self.assertIs(is_price_paper(paragraph, costs, (least, tuple(sorted(rows + ((*wrong, price),))))), False)

    def test_what_is_a_paper(self):
        paragraph, costs = (place(3), END, place(None, 4)), ((10,), 1, 0, 0, (0, 0))
        told = (0, ((0, 1, 0, "plain", 10003), (1, 1, 2, "plain", 0), (1, 2, 2, "plain", 10003), (2, 2, 0, "marked", 10004), (2, 3, 0, "marked", 20007)))
        self.assertEqual(price_paper(paragraph, costs), told)
        least, rows = told
        first = rows[0]
        for value in (
            list(told), (least, list(rows)), (least,), (least, rows, 1), (True, rows), (least, rows[::-1]), (least, (list(first),) + rows[1:]), (None, rows),
            (least, (first[:4],) + rows[1:]), (least, (first + (1,),) + rows[1:]), (least, ((False, *first[1:]),) + rows[1:]), (least, ((0, True) + first[2:],) + rows[1:]),
            (least, ((0, 1, False, "plain", 10003),) + rows[1:]), (least, ((0, 1, 0, "plain", True),) + rows[1:]), (least, ((0, 1, 0, "marked", 3),) + rows[1:]),
            (least, ((0, 1, 0, "plain", LEAST - 1),) + rows[1:]), (least, ((0, 1, 0, ["plain"], 3),) + rows[1:]), (least, ((0, 1, 0, None, 3),) + rows[1:]),
            (least, ((0, 1, 0, "plain", 10002),) + rows), (least, rows + ((3, 2, 2, "plain", 0),)), (least, ((-1, 0, 0, "plain", 0),) + rows), (least, rows[:1] + ((1, 1, 2, "marked", 0),) + rows[1:]),
        ):
            self.assertIs(is_price_paper(paragraph, costs, value), False, value)
        for value in ODD:
            self.assertIs(is_price_paper(paragraph, costs, value), False, value)
        self.assertEqual(price_paper((), FLAT), (0, ()))
        self.assertIs(is_price_paper((), FLAT, (0, ())), True)
        self.assertIs(is_price_paper((), FLAT, (1, ())), False)
        self.assertIs(is_price_paper((("box", 11),), FLAT, (10 ** 119, ())), True)
        self.assertIsNone(price_paper((("box", 11),), FLAT))


class Keys(unittest.TestCase):
    def test_breakers(self):
        source = random.Random(30)
        told_worse = 0
        for _ in range(2500):
            paragraph, costs, key = random_paragraph(source, 12, 6), random_costs(source), random_key(source)
            told = key_way(paragraph, costs, key)
            self.assertEqual(told, breaker_slowly(paragraph, costs, key), (paragraph, costs, key))
            enough = enough_slowly(costs, key)
            self.assertEqual(is_enough(costs, key), enough, (costs, key))
            least = least_slowly(paragraph, costs)
            cost = None if told is None else cost_slowly(paragraph, costs, told)
            if enough:
                self.assertEqual(cost, least, (paragraph, costs, key))
            else:
                told_worse += cost != least
        self.assertGreater(told_worse, 10)

    def test_ties(self):
        # Of ways of one cost the first one in Python's order is kept: "marked" ahead of "plain", lesser indices first.
        paragraph = (place(0, 0), place(0, 0))
        costs = ((10,), 0, 0, 0, (0, 0))
        self.assertEqual(key_way(paragraph, costs, FULL), ())
        self.assertEqual(key_way((place(-1, -1), place(-1, -1)), costs, FULL), ((0, "marked"), (1, "marked")))
        self.assertEqual(key_way((place(-1), place(-1, -1), END), ((10,), 0, 0, 0, (2, 9)), FULL), ())
        self.assertEqual(key_way((place(-1), place(-1, -1), END), ((10,), 0, 0, 0, (3, 9)), FULL), ((0, "plain"),))
        self.assertEqual(key_way((place(-1), place(-1, -1), END), ((10,), 0, 0, 0, (4, 9)), FULL), ((0, "plain"), (1, "marked")))

    def test_enough_keys(self):
        for costs, key, told in (
            (((10,), 0, 0, 0, (0, 0)), (0, False, False), True), (((10,), 0, 1, 0, (0, 0)), (None, False, True), False),
            (((10,), 0, 1, 0, (0, 0)), (0, True, False), True), (((10,), 0, 0, 1, (0, 0)), (0, True, False), False),
            (((10,), 0, 0, 1, (0, 0)), (0, False, True), True), (((10,), 0, 0, 0, (5, 1)), (8, True, True), False),
            (((10,), 0, 0, 0, (5, 1)), (None, False, False), True), (((10,), 0, 0, 0, (5, 0)), (0, False, False), True),
            (((10, 20), 0, 0, 0, (0, 0)), (0, False, False), True), (((10, 20), 0, 0, 0, (0, 0)), (1, False, False), True),
            (((10, 20, 10), 0, 0, 0, (0, 0)), (1, False, False), False), (((10, 20, 10), 0, 0, 0, (0, 0)), (2, False, False), True),
            (((10,) * 7 + (20,), 0, 0, 0, (0, 0)), (6, False, False), False), (((10,) * 7 + (20,), 0, 0, 0, (0, 0)), (7, False, False), True),
            (((10,) * 7 + (20,), 0, 0, 0, (0, 0)), (8, False, False), True), (((10, 20, 20, 30), 0, 0, 0, (0, 0)), (0, True, True), False),
        ):
            self.assertIs(is_enough(costs, key), told, (costs, key))
            self.check_parted(costs, key)

    def check_parted(self, costs, key):
        told = parting_paragraph(costs, key)
        self.assertEqual(told is None, enough_slowly(costs, key), (costs, key))
        if told is None:
            return None
        self.assertIsInstance(told, tuple)
        paragraph, way = told
        self.assertIs(is_paragraph(paragraph), True)
        cost = cost_slowly(paragraph, costs, way)
        self.assertEqual(way_cost(paragraph, costs, way), cost)
        self.assertIsNotNone(cost)
        kept = breaker_slowly(paragraph, costs, key)
        self.assertEqual(key_way(paragraph, costs, key), kept)
        self.assertTrue(kept is None or cost_slowly(paragraph, costs, kept) > cost, (costs, key, told))
        return kept is None

    def all_costs(self, source, many):
        for _ in range(many):
            widths = tuple(source.choice((10, 11, 500, 999, 1000, source.randint(10, 1000))) for _ in range(source.randint(1, 8)))
            if source.random() < 0.4:
                widths = widths[:1] * source.randint(1, 8)
            elif source.random() < 0.4:
                widths = widths[:1] * source.randint(0, 7) + widths[-1:]
            wish = (source.choice((0, 1, 2, 3, 7, 8, 9, 10, 11, 48, 49, 50, 51, 52, 60, 61, 999, 1000)), source.choice((0, 0, 1, 2, 1000)))
            yield (widths, source.choice((0, 1, 7, 1000)), source.choice((0, 0, 0, 1, 2, 1000)), source.choice((0, 0, 0, 1, 2, 1000)), wish)

    def test_parting_paragraphs(self):
        source = random.Random(31)
        ways = {}
        for costs in self.all_costs(source, 1500):
            key = (source.choice([None, *range(9)]), source.random() < 0.5, source.random() < 0.5)
            told = self.check_parted(costs, key)
            ways[told] = ways.get(told, 0) + 1
        self.assertGreater(min(ways.values()), 10, ways)

    def test_parting_paragraphs_at_all_edges(self):
        for cap in range(9):
            for number in (0, 1, 2, cap, cap + 1, cap + 2, 48, 49, 50, 51, 1000):
                for weight in (0, 1000):
                    self.check_parted(((10,), weight, 0, 0, (number, 1)), (cap, False, False))
            for at in range(7):
                for widths in ((10,) * at + (1000,) + (10,) * (7 - at), (999,) * (at + 1) + (10,), (10,) * (at + 1) + (11,)):
                    self.check_parted((widths, 1000, 0, 0, (at, 0)), (cap, True, False))
        for first in (10, 1000):
            for second in (10, 999, 1000):
                for weight in (0, 1, 1000):
                    for near in (1, 1000):
                        for third in (10, 1000):
                            self.check_parted(((first, second, third), weight, near, 0, (2, 1)), (None, False, True))
                    self.check_parted(((first, second), weight, 5, 1, (2, 1)), (0, True, False))

    def test_parting_pairs_at_all_edges(self):
        for widths in ((10,), (10, 11), (10, 10, 10, 10, 10, 10, 10, 9 + 2), (1000, 10), (10, 1000) * 4):
            for near in (0, 1):
                for wish in ((0, 0), (0, 7), (1, 0), (1, 1), (2, 1), (3, 1), (4, 1), (1000, 1), (2, 1000)):
                    self.check_pair((widths, 0, near, 0, wish))
                    self.check_pair((widths, 1000, near, 1000, wish))

    def check_pair(self, costs):
        widths, _, near, _, wish = costs
        splits = near == 0 and len(set(widths)) == 1 and 0 in wish
        self.assertIs(do_split(costs), splits)
        told = parting_pair(costs)
        self.assertEqual(told is None, splits, costs)
        if told is not None:
            self.assertIsInstance(told, tuple)
            one, other = told
            self.assertTrue(is_paragraph(one) and is_paragraph(other) and len(one + other) <= 59)
            parts = [least_slowly(one, costs), least_slowly(other, costs)]
            both = None if None in parts else sum(parts)
            self.assertNotEqual(least_slowly(one + (END,) + other, costs), both, (costs, told))
        return splits

    def test_parting_pairs(self):
        source = random.Random(33)
        counts = {}
        for costs in self.all_costs(source, 900):
            splits = self.check_pair(costs)
            counts[splits] = counts.get(splits, 0) + 1
        self.assertGreater(min(counts.values()), 60, counts)

    def test_costs_that_split(self):
        source = random.Random(34)
        for _ in range(150):
            one, other = random_paragraph(source, 6, 3), random_paragraph(source, 6, 3)
            costs = ((source.choice((10, 15, 20)),) * source.randint(1, 3), source.randint(0, 2), 0, source.choice((0, 3)), source.choice(((0, 5), (4, 0))))
            self.assertIs(do_split(costs), True)
            parts = [least_slowly(one, costs), least_slowly(other, costs)]
            told = least_way(one + (END,) + other, costs)
            if None in parts:
                self.assertIsNone(told)
            else:
                self.assertEqual(way_cost(one + (END,) + other, costs, told), sum(parts))


class Dropping(unittest.TestCase):
    def test_dropping(self):
        source = random.Random(35)
        unlike = 0
        for _ in range(900):
            paragraph, costs = random_paragraph(source, 12, 6), random_costs(source)
            told = dropping_way(paragraph, costs)
            self.assertEqual(told, breaker_slowly(paragraph, costs, FULL, True), (paragraph, costs))
            unlike += told != least_way(paragraph, costs)
        self.assertGreater(unlike, 10)

    def test_dropped_for_all_that_stands_behind(self):
        costs = ((20,), 0, 0, 0, (0, 0))
        wide, back = ("gap", 5, 0, 0), ("gap", -5, 0, 0)
        self.assertIsNone(dropping_way((("box", 20), wide, place(0), back), costs))
        self.assertIsNone(dropping_way((("box", 20), wide, place(0), back, place(0)), costs))
        self.assertIsNone(dropping_way((("box", 20), wide, END), costs))
        self.assertEqual(dropping_way((("box", 20), wide, back, place(0)), costs), ())
        self.assertEqual(least_way((("box", 20), wide, place(0), back), costs), ())
        # One way is dropped, another one, which is dearer, is not.
        paragraph = (place(5), ("box", 20), wide, place(None, 0), back)
        self.assertIsNone(dropping_way(paragraph, costs))
        # The ahead of a place makes a line too wide; behind another place it begins anew.
        paragraph = (("box", 15), place(5), ("box", 3), place(0, None, 9, 0, 0))
        self.assertEqual(least_way(paragraph, costs), ())
        self.assertEqual(dropping_way(paragraph, costs), ((1, "plain"),))
        self.assertEqual([way_cost(paragraph, costs, way) for way in ((), ((1, "plain"),))], [0, 5])

    def random_lot(self, source):
        lot = []
        for _ in range(source.randint(0, 4)):
            if source.random() < 0.5:
                natural = source.randint(-3, 9)
                lot.append(("gap", natural, source.randint(0, 5), source.randint(0, max(0, natural + source.randint(-2, 1)))))
            else:
                ahead = source.randint(0, 4)
                lot.append(place(source.randint(-3, 3), source.choice((None, 1)), ahead, source.randint(0, 4), max(0, ahead + source.randint(-1, 3))))
        return tuple(lot)

    def test_lots(self):
        source = random.Random(36)
        counts = {}
        for _ in range(400):
            lot = self.random_lot(source)
            safe = all(item[3] <= (item[1] if item[0] == "gap" else item[5]) for item in lot)
            self.assertIs(is_safe(lot), safe)
            told = dropped_pair(lot)
            self.assertEqual(told is None, safe, lot)
            counts[safe] = counts.get(safe, 0) + 1
            if told is None:
                self.check_safe(source, lot)
            else:
                self.check_dropped(lot, told)
        self.assertGreater(min(counts.values()), 80)

    def check_safe(self, source, lot):
        """In paragraphs of a safe lot dropping tells a way of the least cost."""
        for _ in range(4):
            items = [source.choice([*lot, ("box", source.randint(0, 12)), ("box", source.randint(0, 5)), place(source.randint(-2, 2))]) for _ in range(9)]
            paragraph = tuple(item for at, item in enumerate(items) if sum(one[0] == "place" for one in items[:at]) < 5)
            costs = random_costs(source)
            least, told = least_slowly(paragraph, costs), dropping_way(paragraph, costs)
            self.assertEqual(None if told is None else cost_slowly(paragraph, costs, told), least, (paragraph, costs))

    def check_dropped(self, lot, told):
        paragraph, costs = told
        self.assertTrue(is_paragraph(paragraph) and are_costs(costs))
        self.assertLessEqual(sum(item[0] == "place" for item in paragraph), 6)
        for item in paragraph:
            bare = item[0] == "box" or (item[0] == "place" and item[2:] == (None, 0, 0, 0))
            self.assertTrue(bare or item in lot, (lot, told))
        least, dropped = least_slowly(paragraph, costs), breaker_slowly(paragraph, costs, FULL, True)
        self.assertEqual(dropping_way(paragraph, costs), dropped)
        self.assertIsNotNone(least)
        self.assertTrue(dropped is None or cost_slowly(paragraph, costs, dropped) > least, (lot, told))

    def test_edges_of_lots(self):
        for item, safe in (
            (("gap", 5, 0, 5), True), (("gap", 5, 0, 6), False), (("gap", 0, 9, 0), True), (("gap", 0, 0, 1), False), (("gap", -1, 0, 0), False),
            (("gap", 1000, 0, 1000), True), (("gap", 999, 1000, 1000), False), (("gap", -1000, 0, 1000), False), (place(0, None, 5, 0, 5), True),
            (place(0, None, 6, 0, 5), False), (place(0, None, 0, 1000, 0), True), (place(None, 3, 1, 0, 0), False), (place(1, 1, 1000, 0, 999), False),
            (place(-5, None, 1000, 1000, 1000), True), (place(0, None, 1000, 1000, 0), False),
        ):
            for lot in ((item,), (("gap", 0, 0, 0),) * 19 + (item,), (item,) * 20):
                self.assertIs(is_safe(lot), safe, item)
                told = dropped_pair(lot)
                self.assertEqual(told is None, safe)
                if told is not None:
                    self.check_dropped(lot, told)
        self.assertIs(is_safe(()), True)
        self.assertIsNone(dropped_pair(()))


class Values(unittest.TestCase):
    def test_paragraphs(self):
        for item in (
            ("box", 0), ("box", 1000), ("gap", -1000, 0, 1000), ("gap", 1000, 1000, 0), place(10 ** 9, -(10 ** 9), 1000, 1000, 1000), place(None, 0), place(0), END,
        ):
            self.assertIs(is_paragraph((item,)), True, item)
            self.assertIs(is_paragraph([item]), False)
            self.assertIs(is_paragraph((list(item),)), False)
        for item in (
            ("box", -1), ("box", 1001), ("box", True), ("box",), ("box", 1, 1), ("box", None), ("gap", -1001, 0, 0), ("gap", 1001, 0, 0), ("gap", 0, -1, 0), ("gap", 0, 0, 1001),
            ("gap", 0, 0), ("gap", 0, 0, 0, 0), ("gap", True, 0, 0), place(None), place(10 ** 9 + 1), place(0, -(10 ** 9) - 1), place(True), place(0, False), place(0, None, -1),
            place(0, None, 0, 1001), place(0, None, 0, 0, None), ("place", 0, 0, 0, 0), ("place", 0, 0, 0, 0, 0, 0), ("end", 0), (), ("", 1), 5, "end", ("ends",), (5,), (["box"], 1),
            ("place", "0", None, 0, 0, 0),
        ):
            self.assertIs(is_paragraph((item,)), False, item)
        for value in ODD:
            self.assertIs(is_paragraph(value), False, value)
            self.assertIs(are_costs(value), False, value)
        self.assertIs(is_paragraph(()), True)

    def test_costs(self):
        good = ((10, 1000), 1, 2, 3, (4, 5))
        self.assertIs(are_costs(good), True)
        for at, values in enumerate((
            ((), (9,), (1001,), (True,), [10], (10,) * 9, 10, ("10",), (10, None)), (-1, 1001, True, None, "1"), (-1, 1001, False, ()), (-1, 1001, True, (1,)),
            ((1,), (1, 2, 3), [1, 2], (-1, 0), (1001, 0), (0, 1001), (0, -1), (True, 0), (0, None), 5, ()),
        )):
            for value in values:
                self.assertIs(are_costs(good[:at] + (value,) + good[at + 1:]), False, (at, value))
        for value in (list(good), good[:4], good + (0,), ((10,) * 8, 0, 0, 0, [0, 0])):
            self.assertIs(are_costs(value), False, value)
        self.assertIs(are_costs(((10,) * 8, 1000, 1000, 1000, (1000, 1000))), True)

    def test_few_ways(self):
        self.assertEqual(len(all_ways((place(0, 0), place(0), END, place(None, 0)))), 12)
        self.assertEqual(len(list(itertools.product("ab", repeat=3))), 8)


if __name__ == "__main__":
    unittest.main()
