"""Strips: what they are, how they are set, packed and cut; against a slow way with fractions, for all widths around."""

import random
import unittest

from settlepages.errors import InvalidIndex, InvalidStrip
from settlepages.packing import cut_shown, may_cut, may_pack, packed, packing_shown, set_halves
from settlepages.strips import is_passage, is_strip, set_places, strip_width
from tests.odd import ODD, raised
from tests.strips import (
    box, exact_places, halves_slowly, kern, place, random_strip, set_slowly, sign, space, width_slowly,
)


def boxed(things, depth):
    """Things in so many boxes, one within the other."""
    for _ in range(depth):
        things = (box(*things),)
    return things


class Values(unittest.TestCase):
    def test_things(self):
        good = (
            sign("a"), sign("\n"), sign(" "), sign("~"), kern(10 ** 6), kern(-10 ** 6), place(10 ** 4), place(-10 ** 4), box(), box(sign()), space(10 ** 6, 100, 0, 0, 2),
            space(-10 ** 6, 0, 2, 100, 0), space(0, 0, 1, 0, 1),
        )
        for thing in good:
            self.assertIs(is_strip((thing,)), True, thing)
            self.assertIs(is_strip((box(sign(), thing),)), True, thing)
            self.assertIs(is_strip([thing]), False)
            self.assertIs(is_strip(thing), False)
            self.assertIs(is_passage((thing, place())), True)
            self.assertIs(is_passage((thing,)), thing[0] == "place")
            self.assertIs(is_passage((place(), thing)), thing[0] == "place")
        self.assertIs(is_strip(()), True)
        self.assertIs(is_passage(()), False)

    def test_what_is_no_thing(self):
        for thing in (
            (), ("sign",), ("sign", "a", "b"), ("sign", ""), ("sign", "ab"), ("sign", "\\"), ("sign", "\t"), ("sign", 5), ("sign", None), ["sign", "a"], "sign", ("Sign", "a"),
            ("kern", 10 ** 6 + 1), ("kern", -10 ** 6 - 1), ("kern", True), ("kern", "1"), ("kern", None), ("kern",), ("place", 10 ** 4 + 1), ("place", -10 ** 4 - 1), ("place", False),
            ("par",), ("mark", ()), ("box",), ("box", None), ("box", [sign()]), ("box", sign()), ("box", (sign(), 5)), ("box", (), ()), ("box", ("sign", "a")), ("boxes", ()),
            ("space", 0, 0, 0, 0), ("space", 0, 0, 0, 0, 0, 0), ("space",), ("space", 0), space(10 ** 6 + 1), space(-10 ** 6 - 1), space(True), space("1"), space(0, 101), space(0, -1),
            space(0, True), space(0, 0, 3), space(0, 0, -1), space(0, 0, True), space(0, 0, 0, 101), space(0, 0, 0, -1), space(0, 0, 0, False), space(0, 0, 0, 0, 3), space(0, 0, 0, 0, -1),
            space(0, 0, 0, 0, False), space(0, 0, None), (5, "a"), (None, ()), (["sign"], "a"),
        ):
            self.assertIs(is_strip((thing,)), False, thing)
            self.assertIs(is_strip((box(thing),)), False, thing)
            self.assertIs(is_strip((sign(), thing)), False, thing)
            self.assertIs(is_passage((thing, place())), False, thing)
        for value in ODD:
            self.assertIs(is_strip(value), isinstance(value, tuple) and value == ())
            self.assertIs(is_passage(value), False)

    def test_sixty_things(self):
        self.assertIs(is_strip((sign(),) * 60), True)
        self.assertIs(is_strip((sign(),) * 61), False)
        self.assertIs(is_strip((box(*(sign(),) * 59),)), True)
        self.assertIs(is_strip((box(*(sign(),) * 60),)), False)
        self.assertIs(is_strip((box(*(sign(),) * 30), sign()) + (box(*(sign(),) * 27),)), True)
        self.assertIs(is_strip((box(*(sign(),) * 30), sign(), sign()) + (box(*(sign(),) * 27),)), False)
        self.assertIs(is_strip((box(),) * 60), True)
        many = ()
        for _ in range(90):
            many = (box(*many),) * 2
        self.assertIs(is_strip(many), False)

    def test_boxes_in_five_others(self):
        self.assertIs(is_strip(boxed((), 6)), True)
        self.assertIs(is_strip(boxed((), 7)), False)
        self.assertIs(is_strip(boxed((sign(),), 6)), True)
        self.assertIs(is_strip(boxed((sign(),), 7)), False)
        self.assertIs(is_strip((sign(), *boxed((), 6), sign(), *boxed((space(),), 6))), True)
        self.assertIs(is_strip((sign(), *boxed((), 6), sign(), *boxed((space(),), 7))), False)
        self.assertIs(is_strip(boxed((), 95)), False)

    def test_three_hundred_of_one_order(self):
        for order in range(3):
            full = (space(0, 100, order, 100, order),) * 3
            self.assertIs(is_strip(full), True)
            self.assertIs(is_strip(full + (space(0, 1, order, 0, order),)), False)
            self.assertIs(is_strip(full + (space(0, 0, order, 1, order),)), False)
            self.assertIs(is_strip((box(*full), space(0, 1, order, 0, order))), False)
            self.assertIs(is_strip(full[:2] + (box(space(0, 0, order, 100, order)), box(space(0, 0, order, 1, order)))), False)
            self.assertIs(is_strip(full + (space(0, 1, (order + 1) % 3, 1, (order + 2) % 3),)), True)

    def test_ten_places(self):
        self.assertIs(is_passage((place(),) * 10), True)
        self.assertIs(is_passage((place(),) * 11), False)
        self.assertIs(is_passage((box(*(place(),) * 20), *(place(),) * 10)), True)
        self.assertIs(is_passage((box(place()),)), False)
        self.assertIs(is_passage((place(), box(place()))), False)
        self.assertIs(is_passage((sign(),) * 59 + (place(),)), True)
        self.assertIs(is_passage((sign(),) * 60 + (place(),)), False)


class Setting(unittest.TestCase):
    def test_against_fractions(self):
        source = random.Random(50)
        counts = {}
        for _ in range(600):
            strip = random_strip(source, 7)
            self.assertTrue(is_strip(strip))
            natural = strip_width(strip)
            self.assertEqual(natural, width_slowly(strip))
            for width in (natural, natural + 1, natural - 1, natural + source.randint(1, 30), natural - source.randint(1, 30), 10 ** 9, -10 ** 9):
                told = set_places(strip, width)
                self.assertEqual(told, set_slowly(strip, width), (strip, width))
                counts[told[0]] = counts.get(told[0], 0) + 1
                if told[0] == "set":
                    self.assertEqual(told[1][-1], width)
        self.assertGreater(min(counts.values()), 300, counts)

    def test_less_than_one_below_the_fraction(self):
        source = random.Random(51)
        far = 0
        for _ in range(400):
            strip = tuple(thing for thing in random_strip(source, 9) if thing[0] != "box")
            natural = strip_width(strip)
            for excess in range(-20, 21):
                exact = exact_places(strip, natural + excess)
                told = set_places(strip, natural + excess)
                if told[0] == "set":
                    for one, two in zip(told[1], exact, strict=True):
                        self.assertTrue(0 <= two - one < 1)
                        far = max(far, two - one)
        self.assertGreater(far, 0.8)

    def test_orders(self):
        mixed = (space(1, 1, 0, 1, 0), space(1, 1, 1, 1, 1), space(1, 1, 2, 1, 2), space(1, 3, 2, 1, 2))
        self.assertEqual(set_places(mixed, 12), ("set", (0, 1, 2, 5, 12)))
        self.assertEqual(set_places(mixed[:2], 12), ("set", (0, 1, 12)))
        self.assertEqual(set_places(mixed[:1], 12), ("set", (0, 12)))
        self.assertEqual(set_places(mixed, -100), ("set", (0, 1, 2, -49, -100)))
        self.assertEqual(set_places(mixed[:2], -100), ("set", (0, 1, -100)))
        self.assertEqual(set_places(mixed[:1], -100), ("tight",))
        self.assertEqual(set_places(mixed[:1], 0), ("set", (0, 0)))
        # Just an amount above 0 lets an order rule.
        self.assertEqual(set_places((space(0, 1, 0, 1, 0), space(0, 0, 2, 0, 2), sign()), 12), ("set", (0, 2, 2, 12)))
        self.assertEqual(set_places((space(0, 1, 0, 1, 0), space(0, 0, 2, 0, 2), sign()), 9), ("set", (0, -1, -1, 9)))
        self.assertEqual(set_places((space(0, 1, 0, 1, 0), space(0, 0, 2, 0, 2), sign()), 8), ("tight",))

    def test_what_is_just_lacking(self):
        strip = (sign(), space(0, 5, 0, 3, 0), box(space(0, 9, 0, 9, 0), sign()), space(0, 5, 0, 4, 0), sign())
        self.assertEqual(set_places(strip, 23), ("set", (0, 10, 7, 7, 17, 13, 23)))
        self.assertEqual(set_places(strip, 22), ("tight",))
        self.assertEqual(set_places(strip, 30), ("set", (0, 10, 10, 10, 20, 20, 30)))
        self.assertEqual(set_places(strip, 31), ("set", (0, 10, 10, 10, 20, 21, 31)))
        # Negative excess is rounded down, too.
        self.assertEqual(set_places(strip, 29), ("set", (0, 10, 9, 9, 19, 19, 29)))

    def test_loose_and_tight(self):
        for strip in ((), (sign(),), (space(0, 0, 2, 0, 2),), (box(space(0, 5, 1, 5, 1)),)):
            natural = strip_width(strip)
            self.assertEqual(set_places(strip, natural + 1), ("loose",))
            self.assertEqual(set_places(strip, natural - 1), ("tight",))
            self.assertEqual(set_places(strip, natural)[0], "set")
        self.assertEqual(set_places((), 0), ("set", (0,)))
        self.assertEqual(set_places((box(), box(box())), 0), ("set", (0,)))

    def test_widths(self):
        self.assertEqual(strip_width(()), 0)
        self.assertEqual(strip_width((sign(), place(7), kern(-3), space(4, 9, 0, 9, 0), box(sign(), box(sign(), place(5)), kern(1)))), 32)
        self.assertEqual(strip_width((kern(10 ** 6),) * 60), 6 * 10 ** 7)
        self.assertEqual(set_places((kern(10 ** 6),) * 59 + (space(10 ** 6, 1, 1, 0, 0),), 10 ** 9)[1][-2:], (59 * 10 ** 6, 10 ** 9))

    def test_leaves(self):
        strip = (box(), box(sign(), box(place(), kern(3), sign())), space(0, 1, 0, 0, 0), box(box(box(kern(-2)), sign())))
        self.assertEqual(set_places(strip, 36), ("set", (0, 10, 10, 13, 23, 28, 26, 36)))


class Packing(unittest.TestCase):
    def test_against_all_widths_around(self):
        source = random.Random(52)
        counts = {}
        for turn in range(350):
            strip = random_strip(source, 5, great=2)
            if turn % 3 == 0:
                orders = source.choice(((0, 0), (0, 1), (1, 0), (1, 1)))
                rest = (space(1, 0, 0, 0, 0), space(1, 1, 0, 1, 0), sign(), space(1, 2, *orders[:1], 1, *orders[1:]))
                strip = tuple(source.choice(rest) for _ in range(5))
            natural = strip_width(strip)
            start = source.randint(0, len(strip))
            stop = source.randint(start, len(strip))
            with_box = packed(strip, start, stop)
            self.assertEqual(with_box, strip[:start] + (("box", strip[start:stop]),) + strip[stop:])
            expected = all(set_slowly(strip, width) == set_slowly(with_box, width) for width in range(natural - 70, natural + 71))
            self.assertIs(may_pack(strip, start, stop), expected, (strip, start, stop))
            self.check_shown(strip, with_box, packing_shown(strip, start, stop), expected)
            has_space = any(thing[0] == "space" for thing in strip[start:stop])
            counts[(expected, has_space)] = counts.get((expected, has_space), 0) + 1
        self.assertGreater(min(counts.get((expected, has_space), 0) for expected, has_space in ((True, False), (True, True), (False, True))), 15, counts)

    def check_shown(self, strip, other, width, holds):
        self.assertIs(width is None, holds, (strip, other))
        if width is not None:
            self.assertIsInstance(width, int)
            self.assertLessEqual(abs(width), 10 ** 9)
            self.assertNotEqual(set_slowly(strip, width), set_slowly(other, width), (strip, other, width))

    def test_great_wholes(self):
        # Fractions that differ as little as can be.
        strip = (space(0, 100, 0, 0, 0), space(0, 100, 0, 0, 0), sign(), space(0, 99, 0, 0, 0), space(0, 1, 0, 0, 0))
        self.assertIs(may_pack(strip, 4, 5), False)
        self.check_shown(strip, packed(strip, 4, 5), packing_shown(strip, 4, 5), False)
        strip = (space(0, 0, 0, 100, 1), space(0, 0, 0, 100, 1), sign(), space(0, 0, 0, 99, 1), space(0, 0, 0, 1, 1))
        self.check_shown(strip, packed(strip, 4, 5), packing_shown(strip, 4, 5), False)
        # By the order 0 just what can be lacking tells: to the last of 300.
        strip = (space(0, 0, 0, 100, 0),) * 3
        self.check_shown(strip, packed(strip, 2, 3), packing_shown(strip, 2, 3), False)
        strip = (sign(), space(0, 0, 0, 100, 0), space(0, 0, 0, 100, 0), space(0, 0, 0, 99, 0), space(0, 0, 0, 1, 0))
        self.check_shown(strip, packed(strip, 4, 5), packing_shown(strip, 4, 5), False)
        strip = (sign(), *(space(0, 0, 0, 100, 0),) * 3, kern(10 ** 6), space(0, 0, 0, 1, 1))
        self.check_shown(strip, packed(strip, 5, 6), packing_shown(strip, 5, 6), False)
        strip = (kern(10 ** 6),) * 50 + (space(10 ** 6, 100, 2, 0, 0), space(0, 100, 2, 0, 0), space(0, 99, 2, 0, 0))
        self.check_shown(strip, packed(strip, 51, 52), packing_shown(strip, 51, 52), False)

    def test_other_orders_within(self):
        strip = (sign(), space(3, 5, 0, 0, 0), sign(), space(0, 2, 1, 0, 0))
        self.assertIs(may_pack(strip, 0, 3), True)
        self.assertIs(may_pack(strip, 1, 4), False)
        strip = (sign(), space(3, 5, 0, 5, 0), sign(), space(0, 2, 1, 2, 0))
        self.assertIs(may_pack(strip, 0, 3), False)
        self.assertLess(packing_shown(strip, 0, 3), strip_width(strip))

    def test_edges(self):
        strip = (sign(), space(0, 3, 0, 2, 0), sign())
        for at in range(4):
            self.assertIs(may_pack(strip, at, at), True)
            self.assertIsNone(packing_shown(strip, at, at))
        self.assertEqual(packed(strip, 1, 1), (sign(), box(), space(0, 3, 0, 2, 0), sign()))
        self.assertEqual(packed(strip, 0, 3), (("box", strip),))
        self.assertIs(may_pack(strip, 0, 3), False)
        self.assertIs(may_pack((sign(), kern(3), box(sign())), 0, 3), True)
        self.assertEqual(packed((), 0, 0), (box(),))
        self.assertIs(may_pack((), 0, 0), True)
        # A space alone that stretches at the end of a strip, and one at its beginning.
        self.assertIs(may_pack((sign(), space(0, 1, 0, 1, 0)), 1, 2), False)
        self.assertIs(may_pack((space(5, 0, 2, 0, 2), sign()), 0, 2), True)

    def test_what_is_packed_to_no_strip(self):
        full = (sign(),) * 60
        deep = boxed((sign(),), 6)
        for function in (packed, may_pack, packing_shown):
            self.assertIs(raised(function, (full, 0, 60)), InvalidStrip)
            self.assertIs(raised(function, (full, 5, 5)), InvalidStrip)
            self.assertIs(raised(function, (full, 5, 4)), InvalidIndex)
            self.assertIs(raised(function, (full[1:], 5, 5)), None)
            self.assertIs(raised(function, (deep, 0, 1)), InvalidStrip)
            self.assertIs(raised(function, (deep, 0, 0)), None)
            self.assertIs(raised(function, (boxed((sign(),), 5), 0, 1)), None)


class Cutting(unittest.TestCase):
    def test_against_all_widths_around(self):
        source = random.Random(53)
        counts = {True: 0, False: 0}
        for turn in range(300):
            strip = random_strip(source, 6, great=3)
            if turn % 2:
                strip = tuple(space(source.randint(0, 2), source.randint(0, 5), turn // 2 % 2, source.randint(0, 5), turn // 4 % 2) for _ in range(5))
            natural = strip_width(strip)
            at = source.randint(0, len(strip))
            widths = [width for width in range(natural - 40, natural + 41) if set_slowly(strip, width)[0] == "set"]
            for width in (natural - 41, natural - 1, natural, natural + 7):
                self.assertEqual(set_halves(strip, at, width), halves_slowly(strip, at, width), (strip, at, width))
            expected = all(halves_slowly(strip, at, width) == set_slowly(strip, width) for width in widths)
            self.assertIs(may_cut(strip, at), expected, (strip, at))
            width = cut_shown(strip, at)
            self.assertIs(width is None, expected)
            if width is not None:
                self.assertLessEqual(abs(width), 10 ** 9)
                self.assertEqual(set_slowly(strip, width)[0], "set")
                self.assertNotEqual(halves_slowly(strip, at, width), set_slowly(strip, width))
            counts[expected] += 1
        self.assertGreater(min(counts.values()), 40, counts)

    def test_edges(self):
        strip = (space(0, 2, 0, 2, 0), space(0, 1, 0, 1, 0), sign(), space(0, 3, 0, 3, 0))
        for at in (0, 4):
            self.assertIs(may_cut(strip, at), True)
            self.assertEqual(set_halves(strip, at, 13), set_places(strip, 13))
        self.assertIs(may_cut((), 0), True)
        self.assertEqual(set_halves((), 0, 0), ("set", (0,)))
        self.assertEqual(set_halves((), 0, 1), ("loose",))
        self.assertEqual(set_halves(strip, 2, 3), ("tight",))
        self.assertEqual(set_halves(strip, 2, 4), ("set", (0, -2, -3, 7, 4)))
        self.assertEqual(set_halves(strip, 2, 10), ("set", (0, 0, 0, 10, 10)))

    def test_one_way_alone(self):
        # Just what is above 0 shows it, or just what is below.
        above = (space(0, 2, 0, 0, 0), space(0, 1, 0, 0, 0), space(0, 3, 0, 0, 0))
        self.assertGreater(cut_shown(above, 2), 0)
        below = (space(0, 0, 0, 2, 0), space(0, 0, 0, 1, 0), space(0, 0, 0, 3, 0))
        self.assertLess(cut_shown(below, 2), 0)
        below = (space(0, 0, 0, 2, 1), space(0, 0, 0, 1, 1), space(0, 0, 0, 3, 1))
        self.assertLess(cut_shown(below, 2), 0)

    def test_three_hundred(self):
        strip = (space(0, 100, 0, 100, 0), space(0, 50, 0, 50, 0), sign(), space(0, 50, 0, 50, 0), space(0, 100, 0, 100, 0))
        width = cut_shown(strip, 2)
        self.assertNotEqual(halves_slowly(strip, 2, width), set_slowly(strip, width))
        # All in one thing on either side: what is left of the fraction plays no part.
        strip = (space(0, 100, 0, 100, 0), sign(), space(0, 100, 0, 100, 0))
        self.assertIs(may_cut(strip, 1), True)


if __name__ == "__main__":
    unittest.main()
