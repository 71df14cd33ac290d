"""Walks: how they go further and back, and where steps and things come from."""

import unittest

from settlepages.runs import brought_of, events_of, read_of, run_of
from settlepages.sources import come_of, source_of, things_told, way_of
from settlepages.walks import gone_back, gone_further, is_walk, walk_ended
from tests.odd import ODD
from tests.texts import random_answers, random_texts

S = ("space", 0, 0, 0, 0, 0)
ENDLESS = "!rule!f(!f)!f\n"
RULES = "!rule!h(c)!rule!f$1(a$1)!rule!g(!f b!f!h)!let!x!g!row0(!f!g)!rule!k((!h!after!g)!f!g)"
NESTED = ("!g ", "!f!g ", "!h ", "(", ")", "!box(", "a", "!x ", "!text!row0 ", "!f!k", "!k ", "!f(!f(!g b))", "!first!g!g ", "!mark(!g)")
B = "!rule!f$1($1!kern!num0 )(!num0=7 !f(xy))!f z\n"


def full(text, answers=()):
    """The walk of a text to its end."""
    return (text, answers, run_of(text, answers, 2000)[1])


class Walks(unittest.TestCase):
    def test_what_is_a_walk(self):
        for value in (("", (), 0), ("a\n", (), 0), ("a\n", (), 1), ("a\n", (), 2), (ENDLESS, (), 2000), (ENDLESS, (True,) * 40, 1999), ("a)b\n", (), 2), ("!stop a\n", (), 1)):
            self.assertIs(is_walk(value), True, value)
        for value in (
            ("", (), 1), ("a\n", (), 3), ("a\n", (), -1), ("a\n", (), True), ("a\n", (), "1"), ("a\n", (), None), (ENDLESS, (), 2001), ("a)b\n", (), 3), ("!stop a\n", (), 2),
            ("a", (), 0), ("a\n", [], 1), ("a\n", (1,), 1), ("a\n", (True,) * 41, 1), ("a\n", None, 1), (None, (), 0), ["a\n", (), 1], ("a\n", ()), ("a\n", (), 1, 0), (("a\n",), (), 0),
        ):
            self.assertIs(is_walk(value), False, value)
        for value in ODD:
            self.assertIs(is_walk(value), False)

    def test_every_number_of_steps(self):
        for text, answers in zip(random_texts(70, 60, 12), random_answers(71, 60, 5)):
            steps = run_of(text, answers, 300)[1]
            for most in range(0, steps + 1, 1 + steps // 20):
                self.assertIs(is_walk((text, answers, most)), True)
            if steps < 300:
                self.assertIs(is_walk((text, answers, steps + 1)), False)
                self.assertIs(walk_ended((text, answers, steps)), True)
            for most in range(0, steps, 1 + steps // 20):
                self.assertIs(walk_ended((text, answers, most)), False)

    def test_ends(self):
        for text, ended in (
            ("", True), ("a\n", True), ("a)\n", True), ("!kern\n", True), ("(\n", True), ("!free a\n", True), ("!stop a\n", True), (ENDLESS, False), ("!free!else a!endtest\n", True),
        ):
            self.assertIs(walk_ended(full(text)), ended, text)
        self.assertIs(walk_ended(("a\n", (), 0)), False)
        self.assertIs(walk_ended((";\n", (), 0)), True)
        self.assertIs(walk_ended((ENDLESS, (), 0)), False)
        self.assertIs(walk_ended(("a" * 399 + "\n", (), 400)), True)
        # A run that would do one step more than two thousand is not at its end.
        rule = "!rule!g" + "()" + "!rule!h(" + "!g" * 98 + ")" + "!h" * 20 + "\n"
        steps = run_of(rule, (), 2000)[1]
        self.assertLess(steps, 2000)
        exact = rule[:-1] + "." * (1999 - steps) + "\n"
        self.assertEqual(run_of(exact, (), 2000), (("done", (("sign", "."),) * (1999 - steps) + (S,)), 2000))
        self.assertIs(walk_ended((exact, (), 2000)), True)
        more = rule[:-1] + "." * (2000 - steps) + "\n"
        self.assertEqual(run_of(more, (), 2000), (("more",), 2000))
        self.assertIs(walk_ended((more, (), 2000)), False)
        self.assertEqual(gone_further((more, (), 1990), 2000), (more, (), 2000))

    def test_further_and_back(self):
        walk = (B, (), 4)
        self.assertEqual([gone_further(walk, many)[2] for many in (0, 1, 9, 10, 11, 2000)], [4, 5, 13, 14, 14, 14])
        self.assertEqual([gone_back(walk, many)[2] for many in range(5)], [4, 3, 2, 1, 0])
        self.assertEqual(gone_further((B, (), 14), 2000), (B, (), 14))
        self.assertEqual(gone_further((ENDLESS, (True,), 1000), 1000), (ENDLESS, (True,), 2000))
        self.assertEqual(gone_further((ENDLESS, (True,), 1000), 1001), (ENDLESS, (True,), 2000))
        self.assertEqual(gone_further((ENDLESS, (), 2000), 2000), (ENDLESS, (), 2000))
        self.assertEqual(gone_back((ENDLESS, (), 2000), 2000), (ENDLESS, (), 0))
        for text, answers in zip(random_texts(72, 40, 10), random_answers(73, 40, 4)):
            steps = run_of(text, answers, 100)[1]
            whole = gone_further((text, answers, 0), 100)
            self.assertEqual(whole, (text, answers, steps))
            self.assertEqual(gone_further(gone_back(whole, steps // 2), steps // 2), whole)

    def test_answers_that_are_waited_for(self):
        text = "!free a!else b!endtest!free c!endtest\n"
        self.assertEqual([gone_further((text, answers, 0), 99)[2] for answers in ((), (True,), (True, True))], [4, 4, 6])
        self.assertEqual(things_told(full(text, (True, True))), [(1, 7, ("sign", "a")), (4, 29, ("sign", "c"))])


class Sources(unittest.TestCase):
    def test_against_what_tokens_bear(self):
        longest = 0
        texts = random_texts(74, 80, 14) + [RULES + (text or "\n") for text in random_texts(76, 60, 14, 300, NESTED)]
        for text, answers in zip(texts, random_answers(75, 140, 5)):
            walk = gone_further((text, answers, 0), 70)
            brought = brought_of(text, answers, walk[2])
            events = events_of(text, answers, walk[2])
            begun = [event for event in events if event[2][0] in ("work", "do")]
            ways = []
            for index in range(walk[2]):
                way = way_of(walk, index)
                ways.append(way)
                self.assertEqual(way[0], index)
                self.assertEqual([brought[step] for step in way], [*way[1:], -1])
                # Each step of a way was ahead of the one that came of it.
                self.assertEqual(list(way), sorted(set(way), reverse=True))
                source = source_of(walk, index)
                self.assertEqual(begun[way[-1]][0], way[-1] + 1)
                self.assertEqual(source, begun[way[-1]][1])
                # The token of the last step was read from the text, not behind its source.
                token = begun[way[-1]][2][1]
                self.assertTrue(any(token == one and behind <= source for one, _, behind in read_of(text, answers, walk[2])))
                longest = max(longest, len(way))
            for index in range(walk[2]):
                self.assertEqual(come_of(walk, index), [step for step in range(walk[2]) if index in ways[step]])
            self.assertEqual(things_told(walk), self.things_slowly(events, ways, begun))
        self.assertGreater(longest, 4)

    def things_slowly(self, events, ways, begun):
        found = []
        for at, (_, _, event) in enumerate(events):
            if event[0] == "come":
                doing = [steps - 1 for steps, _, ahead in events[:at] if ahead[0] == "do"]
                step = max(doing)
                found.append((step, begun[ways[step][-1]][1], event[1]))
        return found

    def test_rules_within_rules(self):
        text = "!rule!f$1(a$1)!rule!g(!f b!f!h)!rule!h(c)d!g e\n"
        walk = full(text)
        expected = [(3, 42, "d"), (6, 44, "a"), (7, 44, "b"), (9, 44, "a"), (11, 44, "c"), (12, 46, "e")]
        # The steps: rules (0 to 2), d (3), g (4), f (5), a, b, f (8), a, h (10), c, e, and the space at last.
        self.assertEqual([(step, source, thing[1]) for step, source, thing in things_told(walk) if thing[0] == "sign"], expected)
        self.assertEqual([way_of(walk, step) for step in (3, 4, 6, 7, 9, 10, 11)], [(3,), (4,), (6, 5, 4), (7, 5, 4), (9, 8, 4), (10, 8, 4), (11, 10, 8, 4)])
        self.assertEqual(come_of(walk, 4), [4, 5, 6, 7, 8, 9, 10, 11])
        self.assertEqual(come_of(walk, 8), [8, 9, 10, 11])
        self.assertEqual(come_of(walk, 3), [3])
        self.assertEqual(source_of(walk, 11), 44)

    def test_things_by_the_last_step_that_is_done(self):
        # The number is worked out behind the step that begins.
        text = "!num0 5 a!kern!text!num0 b\n"
        self.assertEqual(things_told(full(text)), [(1, 9, ("sign", "a")), (2, 14, ("kern", 5)), (4, 26, ("sign", "b")), (5, 27, S)])
        # A box comes when it is left, and what is kept in it comes of its end.
        text = "!box(a!after b)c\n"
        self.assertEqual(things_told(full(text)), [
            (1, 6, ("sign", "a")), (3, 15, ("box", (("sign", "a"),))), (4, 15, ("sign", "b")), (5, 16, ("sign", "c")), (6, 17, S),
        ])
        self.assertEqual(way_of(full(text), 4), (4, 3))
        # Things in boxes that are left open came, too.
        self.assertEqual(things_told(full("!box(a!box(b\n"))[:2], [(1, 6, ("sign", "a")), (3, 12, ("sign", "b"))])
        self.assertEqual(things_told(full("!mark(!text!num0)\n"))[:1], [(0, 5, ("mark", ((6, "0"),)))])

    def test_skipped_parts_and_braces(self):
        text = "!free a!else(b!box(c))!endtest d!equal 1 2 e!else f!endtest\n"
        things = [(source, thing[1]) for _, source, thing in things_told(full(text)) if thing[0] == "sign"]
        self.assertEqual(things, [(14, "b"), (20, "c"), (32, "d"), (51, "f")])
        self.assertEqual([thing[0] for _, _, thing in things_told(full(text))].count("box"), 1)
        things = [(source, thing[1]) for _, source, thing in things_told(full(text, (True,))) if thing[0] == "sign"]
        self.assertEqual(things, [(7, "a"), (32, "d"), (51, "f")])

    def test_values_that_are_told(self):
        # Rows and figures come of the step that tells them; let and made leave no step behind.
        walk = full("!row0(ab)!made!f(!text!row0)!f!let!x c!x!first-!text!row0\n")
        told = {thing[1]: (step, source) for step, source, thing in things_told(walk)[:2]}
        self.assertEqual(set(told), {"a", "b"})
        self.assertEqual({source for _, source in told.values()}, {30})
        self.assertEqual([way_of(walk, step) for step, _ in told.values()], [(4, 3), (5, 3)])

    def test_no_steps(self):
        self.assertEqual(things_told(("a\n", (), 0)), [])
        self.assertEqual(things_told(("", (), 0)), [])
        self.assertEqual(things_told(("a\n", (), 1)), [(0, 1, ("sign", "a"))])


if __name__ == "__main__":
    unittest.main()
