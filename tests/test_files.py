"""Files of moves: what they show, their forms, and the lightest ones; against slow ways, from many spots."""

import itertools
import random
import unittest

from settlepages.fileforms import form_of_file, is_set_out, parting_spot
from settlepages.lightfiles import light_file, puts_marks
from settlepages.movefiles import file_weight, is_file, shown_by_file
from tests.odd import ODD

GREAT = 10 ** 9
PUSH, POP = ("push",), ("pop",)
SOME = (
    ("put", "a"), ("put", "b"), ("move", 1), ("move", -1), ("keep", 0, 1), ("keep", 1, 2), ("go", 0), ("go", 1), PUSH, POP,
)
SPOTS = tuple(itertools.product((0, 3, -7), (0, 11, -50), (0, 400, -2000)))


def done_slowly(file, spot):
    """What a file shows from a spot, and what it leaves."""
    place, slots, shown = spot[0], list(spot[1:]), []
    held = []
    for word, *rest in file:
        if word == "put":
            shown.append((place, rest[0]))
        elif word == "move":
            place += rest[0]
        elif word == "keep":
            slots[rest[0]] = rest[1]
            place += rest[1]
        elif word == "go":
            place += slots[rest[0]]
        elif word == "push":
            held.append((place, *slots))
        else:
            place, *slots = held.pop()
    return tuple(shown), (place, *slots)


def is_paired(file):
    heights = list(itertools.accumulate((deed == PUSH) - (deed == POP) for deed in file))
    return not heights or (min(heights) >= 0 and heights[-1] == 0)


def all_files(longest, deeds=SOME):
    rows = (row for many in range(longest + 1) for row in itertools.product(deeds, repeat=many))
    return [row for row in rows if is_paired(row)]


def random_file(source, many, great=5):
    """A file of up to so many deeds, pushes and pops being paired."""
    deeds = []
    for _ in range(source.randint(0, many)):
        word = source.choice(("put", "put", "move", "keep", "keep", "go", "go", "push"))
        length, slot = source.randint(-great, great), source.randint(0, 1)
        deed = {"put": ("put", source.choice("ab")), "move": ("move", length), "keep": ("keep", slot, length), "go": ("go", slot), "push": PUSH}[word]
        deeds.append(deed)
    pushed = [at for at, deed in enumerate(deeds) if deed == PUSH]
    for at in reversed(pushed):
        deeds.insert(source.randint(at + 1, len(deeds)), POP)
    return tuple(deeds) if is_paired(deeds) else ()


def told(linear, spot):
    return linear[0] + sum(one * two for one, two in zip(linear[1:], spot))


class Files(unittest.TestCase):
    def test_what_is_a_file(self):
        for file in (
            (), (PUSH, POP), (PUSH, PUSH, POP, POP) * 15, (PUSH,) * 30 + (POP,) * 30, (("put", "\n"), ("put", "~")), (("move", GREAT), ("move", -GREAT), ("move", 0)),
            (("keep", 0, GREAT), ("keep", 1, -GREAT)), (("go", 0), ("go", 1)) * 30,
        ):
            self.assertIs(is_file(file), True, file)
            self.assertIs(is_file(list(file)), False)
        for file in (
            (PUSH,), (POP,), (POP, PUSH), (PUSH, POP, POP, PUSH), (PUSH, PUSH, POP), (("put", "a"),) * 61, (PUSH, POP) * 31, ("put", "a"), (["put", "a"],), (("put",),), (("put", "a", "b"),),
            (("put", ""),), (("put", "ab"),), (("put", "\\"),), (("put", 5),), (("move",),), (("move", GREAT + 1),), (("move", -GREAT - 1),), (("move", True),), (("move", "1"),), (("move", 1, 1),),
            (("keep", 0),), (("keep", 2, 1),), (("keep", -1, 1),), (("keep", True, 1),), (("keep", False, 1),), (("keep", 0, GREAT + 1),), (("keep", 0, True),), (("keep", 0, 1, 1),), (("keep", 1, None),),
            (("go", 2),), (("go", -1),), (("go", True),), (("go",),), (("go", 0, 0),), (("push", 0), POP), (PUSH, ("pop", 0)), ((),), (("show", "a"),), (5,), (None,), ((0, 1),), (("Push",), POP), ((["put"], "a"),),
        ):
            self.assertIs(is_file(file), False, file)
        for value in ODD:
            self.assertIs(is_file(value), isinstance(value, tuple) and value == ())

    def test_what_files_show(self):
        source = random.Random(80)
        for _ in range(1500):
            file = random_file(source, 14, source.choice((3, GREAT)))
            self.assertTrue(is_file(file))
            spot = tuple(source.randint(-GREAT, GREAT) for _ in range(3))
            self.assertEqual(shown_by_file(file, spot), done_slowly(file, spot), (file, spot))

    def test_deeds(self):
        spot = (5, 7, -20)
        for file, shown, left in (
            ((), (), spot), ((("put", "a"),), ((5, "a"),), spot), ((("move", -9),), (), (-4, 7, -20)), ((("keep", 0, 3),), (), (8, 3, -20)), ((("keep", 1, 3),), (), (8, 7, 3)),
            ((("go", 0),), (), (12, 7, -20)), ((("go", 1), ("go", 1)), (), (-35, 7, -20)), ((PUSH, ("keep", 1, 4), ("put", "b"), POP, ("put", "c")), ((9, "b"), (5, "c")), spot),
            ((PUSH, ("move", 1), PUSH, ("keep", 0, 2), POP, ("go", 0), POP, ("go", 0)), (), (12, 7, -20)), ((("keep", 0, 1), ("keep", 0, 2), ("go", 0)), (), (10, 2, -20)),
        ):
            self.assertEqual(shown_by_file(file, spot), (shown, left), file)
        self.assertEqual(shown_by_file((("go", 0),) * 60, (GREAT, GREAT, 0)), ((), (61 * GREAT, GREAT, 0)))
        self.assertEqual(shown_by_file((PUSH,) * 30 + (POP,) * 30, spot), ((), spot))
        self.assertEqual(shown_by_file((("put", "a"),) * 60, spot), (((5, "a"),) * 60, spot))

    def test_weights(self):
        for deed, weight in (
            (("put", "a"), 1), (("go", 1), 1), (("move", 0), 3), (("move", 9), 3), (("move", -9), 3), (("move", 10), 4), (("move", -10), 4), (("keep", 0, 0), 3), (("keep", 1, -5), 3),
            (("move", 99), 4), (("move", 100), 5), (("keep", 0, 12345), 7), (("keep", 1, -123456), 8), (("move", 1234567), 9), (("move", 12345678), 10), (("move", -GREAT + 1), 11), (("keep", 0, GREAT), 12), (("move", -GREAT), 12),
        ):
            self.assertEqual(file_weight((deed,)), weight, deed)
            self.assertEqual(file_weight((deed, PUSH, deed, POP)), 2 * weight + 2)
        self.assertEqual(file_weight(()), 0)


class Forms(unittest.TestCase):
    def test_forms_tell_what_files_do(self):
        source = random.Random(81)
        for _ in range(1500):
            file = random_file(source, 14, source.choice((3, GREAT)))
            shown, left = form_of_file(file)
            for spot in ((0, 0, 0), *(tuple(source.randint(-GREAT, GREAT) for _ in range(3)) for _ in range(3))):
                expected = done_slowly(file, spot)
                self.assertEqual(tuple((told(linear, spot), sign) for linear, sign in shown), expected[0], file)
                self.assertEqual(tuple(told(linear, spot) for linear in left), expected[1], file)

    def test_forms(self):
        first = ((0, 1, 0, 0), (0, 0, 1, 0), (0, 0, 0, 1))
        for file, form in (
            ((), ((), first)), ((PUSH, ("move", 3), POP), ((), first)), ((("go", 0), ("go", 0), ("put", "a")), ((((0, 1, 2, 0), "a"),), ((0, 1, 2, 0), *first[1:]))),
            ((("go", 1), ("keep", 1, -4), ("go", 1)), ((), ((-8, 1, 0, 1), first[1], (-4, 0, 0, 0)))), ((("keep", 0, 0),), ((), (first[0], (0, 0, 0, 0), first[2]))),
        ):
            self.assertEqual(form_of_file(file), form, file)
        self.assertEqual(form_of_file((("go", 0), ("go", 1)) * 30)[1][0], (0, 1, 30, 30))

    def test_all_short_files(self):
        files = all_files(3) + all_files(4, (("put", "a"), ("keep", 0, 1), ("go", 0), PUSH, POP))
        by_form, by_spots, set_out = {}, {}, 0
        for file in files:
            found = tuple(done_slowly(file, spot) for spot in SPOTS)
            by_form.setdefault(form_of_file(file), set()).add(file)
            by_spots.setdefault(found, set()).add(file)
            one_place = [[shown for spot, (shown, _) in zip(SPOTS, found) if spot[0] == place] for place in (0, 3, -7)]
            expected = all(len(set(shown)) == 1 for shown in one_place)
            self.assertIs(is_set_out(file), expected, file)
            set_out += expected
        self.assertEqual(sorted(map(sorted, by_form.values())), sorted(map(sorted, by_spots.values())))
        self.assertGreater(len(set(files)), len(by_form) + 50)
        self.assertGreater(len(files) - set_out, 20)

    def test_parting_spots(self):
        source = random.Random(82)
        counts = {True: 0, False: 0}
        for _ in range(3000):
            one = random_file(source, 6, 1)
            other = list(one)
            for _ in range(source.choice((1, 2))):
                if other and source.random() < 0.5:
                    other.pop(source.randrange(len(other)))
                else:
                    other[source.randint(0, len(other)):0] = random_file(source, 1, 1)
            other = tuple(other) if is_paired(other) else random_file(source, 4, 1)
            spot = parting_spot(one, other)
            alike = all(done_slowly(one, spot) == done_slowly(other, spot) for spot in SPOTS)
            self.assertIs(spot is None, alike, (one, other))
            self.assertIs(form_of_file(one) == form_of_file(other), alike)
            if spot is not None:
                self.assertEqual([len(spot), max(map(abs, spot)) <= GREAT], [3, True])
                self.assertNotEqual(done_slowly(one, spot), done_slowly(other, spot))
            counts[alike] += 1
        self.assertGreater(min(counts.values()), 200, counts)

    def test_files_that_differ_from_some_spots_alone(self):
        for one, other in (
            ((("put", "a"),), (("put", "b"),)), ((("put", "a"),), ()), ((("move", 1),), ()), ((("go", 0),), ()), ((("go", 1),), ()), ((("go", 0),), (("go", 1),)),
            ((("keep", 0, 0),), ()), ((("keep", 1, 0),), ()), ((("keep", 0, 1),), (("move", 1),)), ((("keep", 0, 1),), (("keep", 1, 1),)), ((("go", 0), ("put", "a")), (("put", "a"), ("go", 0))),
            ((PUSH, ("go", 1), ("put", "a"), POP), (("put", "a"),)), ((("go", 0), ("move", 1)), (("go", 1), ("move", 1))), ((("go", 0), ("go", 1)), (("move", 5),)),
        ):
            for first, second in ((one, other), (other, one)):
                spot = parting_spot(first, second)
                self.assertNotEqual(done_slowly(first, spot), done_slowly(second, spot))
        # From this spot they do the same.
        self.assertEqual(done_slowly((("keep", 0, 1),), (0, 1, 0)), done_slowly((("move", 1),), (0, 1, 0)))

    def test_set_out(self):
        for file, expected in (
            ((), True), ((("go", 0),), True), ((("go", 0), ("put", "a")), False), ((("go", 1), ("put", "a")), False), ((("keep", 1, 3), ("go", 1), ("put", "a")), True),
            ((PUSH, ("keep", 1, 3), POP, ("go", 1), ("put", "a")), False), ((("put", "a"), ("go", 0)), True), ((PUSH, ("go", 1), POP, ("put", "a")), True),
        ):
            self.assertIs(is_set_out(file), expected, file)


def lightest_slowly(marks):
    """The least weight, by a search through all ways to go from mark to mark by at most one deed."""
    numbers = [number for number, _ in marks]
    lengths = [two - one for one, two in zip([0, *numbers], numbers)]
    best = None
    choices = [
        ((), ("go", 0), ("go", 1), ("move", length), ("keep", 0, length), ("keep", 1, length)) for length in lengths
    ]
    for deeds in itertools.product(*choices):
        file = tuple(deed for pair in zip(deeds, marks) for deed in ((pair[0],) if pair[0] else ()) + (("put", pair[1][1]),))
        if all(done_slowly(file, spot)[0] == tuple((spot[0] + number, sign) for number, sign in marks) for spot in ((0, 0, 0), (5, 17, 900), (0, -9, -70))):
            weight = sum(2 + len(str(abs(deed[-1]))) if deed[0] in ("move", "keep") else 1 for deed in file)
            best = weight if best is None else min(best, weight)
    return best


class LightFiles(unittest.TestCase):
    def check(self, marks):
        file = light_file(marks)
        self.assertIs(is_file(file), True)
        self.assertIs(puts_marks(file, marks), True, (file, marks))
        for spot in SPOTS[::5]:
            self.assertEqual(done_slowly(file, spot)[0], tuple((spot[0] + number, sign) for number, sign in marks))
        self.assertFalse({deed[0] for deed in file} & {"push", "pop"})
        self.assertTrue(all("put" in (one[0], two[0]) for one, two in zip(file, file[1:])))
        return file

    def test_against_a_search(self):
        source = random.Random(83)
        for many in (1, 2, 3, 4, 4, 5, 5):
            for _ in range(8):
                jumps = [source.choice((0, 5, 5, 70, 70, 800, -5, -70)) for _ in range(many)]
                marks = tuple((900 + sum(jumps[:at + 1]), source.choice("ab")) for at in range(many))
                file = self.check(marks)
                self.assertEqual(file_weight(file), lightest_slowly(marks), marks)

    def test_great_rows(self):
        jumps = (1234, 99, 1234, 1, 99, 1234, -50, 99, 7, 1234, 99, -50)
        marks = tuple((sum(jumps[:at + 1]), "a") for at in range(12))
        # Both slots hold what comes again.
        self.assertEqual(file_weight(self.check(marks)), 12 + (2 + 4) + 3 + (2 + 2) + 3 + 3 + 3 + (2 + 2) * 2)
        marks = tuple((GREAT * (at % 2), "a") for at in range(12))
        self.assertEqual(file_weight(self.check(marks)), 12 + 2 * (2 + 10) + 9)
        self.assertEqual(file_weight(self.check(((0, "a"),) * 12)), 12)
        self.assertEqual(file_weight(self.check(((GREAT, "\n"),))), 13)
        self.assertEqual(file_weight(self.check(((0, "a"), (GREAT, "b"), (0, "c")))), 27)

    def test_slots_that_are_kept_again(self):
        # Three lengths, two slots: the one that comes again last is moved anew, or kept over another one.
        jumps = (1000, 2000, 1000, 2000, 30000, 30000, 30000)
        marks = tuple((sum(jumps[:at + 1]), "a") for at in range(7))
        self.assertEqual(file_weight(self.check(marks)), 7 + 6 + 6 + 1 + 1 + 7 + 1 + 1)
        jumps = (10000, 20000, 300, 10000, 20000, 300)
        marks = tuple((sum(jumps[:at + 1]), "a") for at in range(6))
        self.assertEqual(file_weight(self.check(marks)), 6 + 7 + 7 + 5 + 1 + 1 + 5)
        # Either slot is kept again while the other one still holds what comes again: no way can be lighter.
        jumps = (1000, 2000, 1000, 2000, 3000, 1000, 3000, 4000, 3000, 4000)
        marks = tuple((sum(jumps[:at + 1]), "a") for at in range(10))
        self.assertEqual(file_weight(self.check(marks)), 10 + 4 * 6 + 6)
        # It pays to keep the same length twice, where another one lies between.
        jumps = (10, 20, 30, 20, 30, 10, 10)
        marks = tuple((sum(jumps[:at + 1]), "a") for at in range(7))
        self.assertEqual(file_weight(self.check(marks)), lightest_slowly(marks))

    def test_puts(self):
        marks = ((3, "a"), (3, "b"), (1, "a"))
        for file, puts in (
            ((("move", 3), ("put", "a"), ("put", "b"), ("move", -2), ("put", "a")), True), ((("move", 1), ("move", 2), ("put", "a"), ("put", "b"), PUSH, POP, ("move", -2), ("put", "a"), ("go", 0)), True),
            ((("move", 3), ("put", "a"), ("put", "b"), ("move", -2), ("put", "b")), False), ((("move", 3), ("put", "a"), ("put", "b"), ("move", -3), ("put", "a")), False),
            ((("move", 3), ("put", "a"), ("put", "b")), False), ((("move", 3), ("put", "a"), ("put", "b"), ("move", -2), ("put", "a"), ("put", "a")), False), ((), False),
            ((("keep", 0, 3), ("put", "a"), ("put", "b"), ("keep", 0, -1), ("go", 0), ("put", "a")), True), ((("go", 0), ("put", "a"), ("put", "b"), ("move", -2), ("put", "a")), False),
            ((("move", 1), ("put", "a"), ("move", 2), ("put", "a"), ("put", "b")), False),
        ):
            self.assertIs(puts_marks(file, marks), puts, file)


if __name__ == "__main__":
    unittest.main()
