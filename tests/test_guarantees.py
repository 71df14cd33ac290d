"""What the document promises of several modules at once: each of them goes through all of these."""

import itertools
import random
import unittest

from settlepages.aheads import cut_ahead, parting_answers
from settlepages.alike import hand_out_alike, handed_paper, is_handed_paper, parting_stack
from settlepages.alikeshapes import alike_paper, is_alike_paper, unlike_word
from settlepages.behind import endless_behind, told_behind
from settlepages.cutting import cuts_of
from settlepages.earlyrules import unlike_use, use_codes
from settlepages.errors import Refused
from settlepages.fileforms import form_of_file, is_set_out, parting_spot
from settlepages.groupforms import are_alike, form_of, parting_state
from settlepages.groupmoves import idle_deeds, idle_groups, places_of, thinned_deeds
from settlepages.grouprows import deeds_of, done_deeds
from settlepages.groupstacks import least_stack, stack_by, state_told
from settlepages.handing import handing_stack, is_none_paper, none_paper, walk_of
from settlepages.kinds import kind_by
from settlepages.leasttexts import least_text, plain_text
from settlepages.lightfiles import light_file, puts_marks
from settlepages.linecuts import are_let, fewest_mends, fewest_stops, mended, unfit_answers
from settlepages.linedrops import dropped_pair, dropping_way, is_safe
from settlepages.linekeys import do_split, is_enough, key_way, parting_pair, parting_paragraph
from settlepages.moments import moments_of
from settlepages.movefiles import file_weight, shown_by_file
from settlepages.nearesttables import is_row_clash, nearest_table, row_clash
from settlepages.packing import may_cut, may_pack, packed, set_halves
from settlepages.pairshapes import endless_word, pairs_met, shape_of
from settlepages.paragraphs import least_way, price_paper, way_cost
from settlepages.readers import Reader
from settlepages.resting import endless_stack, pairs_told, rest_paper
from settlepages.routines import told_on
from settlepages.rowcodes import code_told, least_code, needed_keys, unlike_case
from settlepages.rowworks import changed_values, row_worked
from settlepages.runs import brought_of, events_of, parting_lines, read_of, run_cut, run_of, state_of
from settlepages.shapecuts import cut_pairs, uncut_words
from settlepages.shapefinds import felt_far, felt_words, word_for
from settlepages.sources import come_of, source_of, things_told, way_of
from settlepages.strips import is_passage, is_strip, set_places, strip_width
from settlepages.tableparts import kinds_let, parting_text
from settlepages.taking import fit_between, lines_taken, may_take, some_lines, taking_shown
from settlepages.tokenrows import refused_at, row_told
from settlepages.walks import gone_back, gone_further, walk_ended
from settlepages.widthrows import parting_widths, width_rows
from tests.lines import random_costs, random_key, random_paragraph
from tests.odd import raised
from tests.spy import do_part, spied
from tests.test_ahead import TEXTS
from tests.test_rows import random_row, random_table, table_of_few, texts_up_to
from tests.test_shapes import random_program, shape_slowly, words_of
from tests.test_walks import NESTED, RULES
from tests.texts import random_answers, random_texts
from tests.turns import random_routine, stacks

EMPTY = (((), ()),)
# Texts that set numbers and lengths, also everywhere, within groups, by rules, and what is kept in these.
GROUPED = (
    "!num0 5 ", "!num1-3 ", "!len0 2 ", "!len2 9 ", "!more!num0 4 ", "!more!len0-1 ", "!everywhere!num0 7 ", "!everywhere!more!num0 2 ", "!everywhere!len0!num1 ", "(", "(", ")", ")", "!box(",
    "!after a", "!after!x", "!let!x!par", "!rule!f(!num1 8 (!num0 1 !after b))", "!f ", "!num0!num1 ", "!len0!len2 ", "a", " ",
)
# Texts that bring strips, and passages.
SETTING = ("ab", "a ", " ", "!kern-3 ", "!place2 ", "!space1 2 0 1 0 ", "!space3 1 0 0 0 ", "!space0 1 1 1 1 ", "!box(a b)", "!box(", ")", "!len0 4 !len1 3 !len2 2 ", "(", "!place0 ")


class Reading(unittest.TestCase):
    def test_tables_that_write_rows(self):
        source = random.Random(100)
        counts = {}
        for turn in range(600):
            table = table_of_few(source, "ab!; (")
            row = row_told(table, source.choice(texts_up_to("ab! ;", 3))) if turn % 3 == 0 else random_row(source, "ab(;", 4)
            text, refused = least_text(table, row), refused_at(table, row)
            self.assertIs(text is None, refused is not None, (table, row))
            clash = row_clash(row)
            nearest = nearest_table(table, row)
            self.assertIs(nearest is None, clash is not None, row)
            if text is not None:
                self.assertEqual(row_told(table, text), row)
                self.assertEqual(plain_text(table, text), text)
                self.assertEqual(nearest, table)
                self.assertEqual(tuple(token for token, _, _ in cuts_of(table, text)), row)
            if clash is not None:
                self.assertIs(is_row_clash(row, clash), True)
            else:
                self.assertIsNone(refused_at(nearest, row))
                self.assertEqual(row_told(nearest, least_text(nearest, row)), row)
            counts[(text is None, clash is None)] = counts.get((text is None, clash is None), 0) + 1
        self.assertGreater(min(counts.values()), 50, counts)
        self.assertEqual(len(counts), 3)

    def test_tables_that_tell_the_same(self):
        source = random.Random(101)
        counts = {True: 0, False: 0}
        for _ in range(400):
            signs = tuple(sorted(source.sample("ab; (", source.randint(0, 3))))
            one, other = (tuple(sorted(random_table(source, "ab; (!").items())) for _ in range(2))
            if source.random() < 0.5:
                other = one
                if signs and source.random() < 0.8:
                    other = dict(one)
                    other[signs[0]] = source.randint(0, 9)
                    other = tuple(sorted((sign, kind) for sign, kind in other.items() if kind != kind_by((), sign)))
            same = all(kind_by(one, sign) == kind_by(other, sign) for sign in signs)
            blank = all({kind_by(one, sign), kind_by(other, sign)} <= {4, 9} for sign in signs)
            text = parting_text(one, other, signs)
            self.assertIs(text is None, same or blank, (one, other, signs))
            if text is None:
                for shown in texts_up_to("".join(signs), 3):
                    self.assertEqual(row_told(one, shown), row_told(other, shown))
            else:
                self.assertNotEqual(row_told(one, text), row_told(other, text))
                for sign in signs:
                    self.assertIn(kind_by(one, sign), kinds_let(one, text, sign))
            counts[text is None] += 1
        self.assertGreater(min(counts.values()), 60, counts)

    def test_texts_that_are_cut_ahead(self):
        counts = {"ahead": 0, "parts": 0, "stops": 0, "none": 0, "mends": 0}
        for text in TEXTS[::2]:
            self.assertIsInstance(moments_of(text), list)
            pieces, parting = cut_ahead(text), parting_answers(text)
            self.assertIs(pieces is None, parting is not None)
            if parting is None:
                counts["ahead"] += 1
                for answers in itertools.product((False, True), repeat=2):
                    told = [(token, start, behind) for token, start, behind, _ in pieces if token is not None]
                    read = read_of(text, answers, 2000)
                    self.assertEqual(read, told[:len(read)])
            else:
                counts["parts"] += 1
                self.assertTrue(do_part(*(spied(text, answers).told_pieces for answers in parting)))
            stops, mends = fewest_stops(text), fewest_mends(text)
            if stops is not None:
                self.assertIsNone(unfit_answers(text, stops))
                counts["stops"] += len(stops) > 0
            else:
                every = tuple(index for index in range(1, len(text)) if text[index - 1] == "\n")
                self.assertIsNotNone(unfit_answers(text, every))
                counts["none"] += 1
            if mends:
                self.assertIs(are_let(text, mends), True)
                for answers in itertools.product((False, True), repeat=2):
                    self.check_mended(text, mended(text, mends), answers)
                counts["mends"] += 1
        self.assertGreater(min(counts["ahead"], counts["parts"]), 10, counts)
        self.assertGreater(min(counts["stops"], counts["none"], counts["mends"]), 2, counts)

    def check_mended(self, text, other, answers):
        """A text and itself with mends that are let bring the same things."""
        one, two = run_of(text, answers, 500), run_of(other, answers, 500)
        self.assertEqual(one[1], two[1], (text, other))
        self.assertEqual(one[0][:2], two[0][:2])
        self.assertEqual(one[0][3:], two[0][3:])

    def test_first_lines_and_readers(self):
        counts = {"same": 0, "parted": 0, "read": 0}
        for text, other in zip(random_texts(103, 500, 8, 100), random_texts(104, 500, 8, 100)):
            lines = parting_lines(text, (), 2000)
            if lines is None:
                self.assertEqual(run_cut(text, other, (), 2000), run_of(text + other, (), 2000))
                counts["same"] += 1
            else:
                self.assertNotEqual(run_cut(text, lines, (), 2000)[0], run_of(text + lines, (), 2000)[0])
                counts["parted"] += 1
            if text.count("\n") == other.count("\n") == 1:
                reader = Reader()
                things = reader.enter(text)
                end = run_of(text, (), 2000)[0]
                self.assertEqual(things, end[1] if end[0] == "done" else end[3][0])
                if reader:
                    things += reader.enter(other)
                    end = run_cut(text, other, (), 2000)[0]
                    self.assertEqual(things, end[1] if end[0] == "done" else end[3][0])
                    self.assertEqual(len(reader), 2)
                    counts["read"] += 1
        self.assertGreater(min(counts.values()), 20, counts)


class Shapes(unittest.TestCase):
    def test_programs(self):
        source = random.Random(105)
        counts = {"endless": 0, "alike": 0, "unlike": 0, "cut": 0, "uncut": 0, "found": 0}
        for _ in range(400):
            one, other = (random_program(source, "ab", source.randint(0, 4)) for _ in range(2))
            if source.random() < 0.5 and one[1]:
                other = (one[0], one[1][1:])
            word = endless_word(one)
            if word is not None:
                self.assertIsNone(shape_of(one, word))
                self.assertIsNone(shape_slowly(one, word))
                counts["endless"] += 1
            if word is not None or endless_word(other) is not None or raised(pairs_met, (one,)) or raised(pairs_met, (other,)):
                continue
            paper, parting = alike_paper(one, other), unlike_word(one, other)
            self.assertIs(paper is None, parting is not None)
            counts["alike" if parting is None else "unlike"] += 1
            if paper is not None:
                self.assertIs(is_alike_paper(one, other, paper), True)
                self.assertEqual(felt_far(one) is None, felt_far(other) is None)
            else:
                self.assertNotEqual(shape_of(one, parting), shape_of(other, parting))
            self.check_cuts(one, counts)
            for word in ("a", "ab", "bba"):
                shape = shape_of(one, word)
                found = word_for(one, shape)
                self.assertEqual(shape_of(one, found), shape)
                self.assertLessEqual((len(found), found), (len(word), word))
                counts["found"] += 1
            if felt_far(one) is not None and felt_far(one) > 0:
                self.assertEqual(len(felt_words(one)), 2)
        self.assertGreater(min(counts.values()), 20, counts)

    def check_cuts(self, program, counts):
        pairs = cut_pairs(program)
        for first, second in itertools.product("ab", repeat=2):
            words = uncut_words(program, first, second)
            self.assertIs(words is None, (first, second) in pairs)
            if words is None:
                counts["cut"] += 1
                for one, two in itertools.product(words_of("ab", 2), repeat=2):
                    if one[-1] == first and two[0] == second:
                        self.assertEqual(shape_of(program, one + two), shape_of(program, one) + shape_of(program, two))
            else:
                counts["uncut"] += 1
                one, two = words
                self.assertNotEqual(shape_of(program, one + two), shape_of(program, one) + shape_of(program, two))


class Rows(unittest.TestCase):
    def test_codes_and_rules(self):
        name = lambda word: ("name", word)
        number = lambda figure: (name("num"), (6, figure))
        choices = ((("num", "0"), (0, 1, 2)), (("num", "1"), (0, 5)), (("row", "0"), ((), ((5, "x"),))))
        parts = [
            (5, "a"), (6, "1"), name("text"), *number("0"), *number("1"), name("row"), (6, "0"), name("equal"), name("less"), name("else"), name("endtest"), name("first"), (4, " "),
        ]
        source = random.Random(106)
        counts = {"same": 0, "unlike": 0, "uses alike": 0, "uses unlike": 0}
        test = (name("equal"), *number("0"), *number("1"))
        bodies = [(name("text"), *number("0")), (name("text"), name("row"), (6, "0")), (*test, (5, "a"), name("else"), (5, "b"), name("endtest")), ()]
        for _ in range(300):
            one, other = (source.choice(bodies) + tuple(source.choice(parts) for _ in range(source.randint(0, 2))) + source.choice(bodies) for _ in range(2))
            if source.random() < 0.3:
                # What neither choice nor row tells apart.
                other = source.choice(((name("first"), *one[:1], *one[1:]) if len(one) > 1 else one, one + (name("text"), name("row"), (6, "7")), one))
            codes = [least_code((), choices, row, ()) for row in (one, other)]
            case = unlike_case((), choices, one, other)
            self.assertIs(case is None, codes[0] == codes[1])
            counts["same" if case is None else "unlike"] += 1
            for asked in itertools.product(range(3), range(2), range(2)):
                values = changed_values((), choices, asked)
                for row, code in zip((one, other), codes):
                    self.assertEqual(code_told(choices, code, asked), row_worked(values, row, ()))
            self.check_needed(choices, one)
            uses = ("f", (), one, ((name("f"),), (name("f"), *other)))
            for some in (choices, choices[2:]):
                if raised(unlike_use, ((), some, uses)) is None:
                    alike = unlike_use((), some, uses) is None
                    self.assertIs(all(early == late for early, late in use_codes((), some, uses)), alike)
                    counts["uses alike" if alike else "uses unlike"] += 1
                else:
                    self.assertIs(raised(unlike_use, ((), some, uses)), Refused)
        self.assertGreater(min(counts.values()), 30, counts)

    def check_needed(self, choices, row):
        """A key is needed if and only if two cases that differ in it alone come to unlike ends."""
        cases = list(itertools.product(range(3), range(2), range(2)))
        ends = {case: row_worked(changed_values((), choices, case), row, ()) for case in cases}
        needed = [
            choices[at][0] for at in range(3)
            if any(one[:at] + one[at + 1:] == two[:at] + two[at + 1:] and ends[one] != ends[two] for one in cases for two in cases)
        ]
        self.assertEqual(needed_keys((), choices, row), needed)


class Paragraphs(unittest.TestCase):
    def test_breakers_and_dropping(self):
        source = random.Random(107)
        counts = {"enough": 0, "not enough": 0, "split": 0, "none split": 0, "let": 0}
        for _ in range(250):
            paragraph, costs, key = random_paragraph(source, 8, 4), random_costs(source), random_key(source)
            way = least_way(paragraph, costs)
            least = None if way is None else way_cost(paragraph, costs, way)
            paper = price_paper(paragraph, costs)
            self.assertEqual(None if paper is None else paper[0], least)
            counts["let"] += way is not None
            shown = parting_paragraph(costs, key)
            self.assertIs(shown is None, is_enough(costs, key))
            counts["enough" if shown is None else "not enough"] += 1
            if shown is None:
                told = key_way(paragraph, costs, key)
                self.assertEqual(None if told is None else way_cost(paragraph, costs, told), least)
            else:
                kept = key_way(shown[0], costs, key)
                self.assertTrue(kept is None or way_cost(shown[0], costs, kept) > way_cost(*shown[:1], costs, shown[1]))
            self.check_split(costs, counts)
            lot = tuple(item for item in paragraph if item[0] in ("gap", "place"))
            self.assertIs(dropped_pair(lot) is None, is_safe(lot))
            if is_safe(lot) and ("end",) not in paragraph:
                told = dropping_way(paragraph, costs)
                self.assertEqual(None if told is None else way_cost(paragraph, costs, told), least)
        self.assertGreater(min(counts.values()), 20, counts)

    def check_split(self, costs, counts):
        pair = parting_pair(costs)
        self.assertIs(pair is None, do_split(costs))
        counts["split" if pair is None else "none split"] += 1
        if pair is not None:
            one, two = pair
            prices = []
            for paragraph in (one, two, one + (("end",),) + two):
                way = least_way(paragraph, costs)
                prices.append(None if way is None else way_cost(paragraph, costs, way))
            self.assertNotEqual(prices[2], None if None in prices[:2] else prices[0] + prices[1])


class Routines(unittest.TestCase):
    def test_resting_and_handing_out(self):
        source = random.Random(108)
        counts = {"rests": 0, "never": 0, "alike": 0, "unlike": 0}
        last = None
        for _ in range(300):
            routine = random_routine(source, 3)
            stack, paper = endless_stack(routine), rest_paper(routine)
            self.assertIs(stack is None, paper is not None)
            if stack is not None:
                self.assertEqual(told_on(routine, stack), ("never",))
                counts["never"] += 1
                continue
            counts["rests"] += 1
            self.assertNotIn("never", {row[2] for row in pairs_told(routine) if row[:2] in [one[:2] for one in paper]})
            for other in [one for one in (last, routine) if one is not None]:
                self.check_two(routine, other, counts)
            marks = told_on(routine, (0, 1, 2))[1][:9]
            found = handing_stack(routine, marks)
            self.assertIs(found is None, none_paper(routine, marks) is not None)
            if found is not None:
                self.assertEqual(told_on(routine, found)[1], marks)
            else:
                self.assertIs(is_none_paper(routine, marks, none_paper(routine, marks)), True)
            last = routine
        self.assertGreater(min(counts.values()), 40, counts)

    def check_two(self, routine, other, counts):
        alike = hand_out_alike(routine, other)
        paper, stack = handed_paper(routine, other), parting_stack(routine, other)
        self.assertEqual([paper is not None, stack is None], [alike, alike])
        counts["alike" if alike else "unlike"] += 1
        if alike:
            self.assertIs(is_handed_paper(routine, other, paper), True)
            self.assertTrue(all(told_on(routine, some)[1] == told_on(other, some)[1] for some in stacks(2)))
            self.assertIsInstance(walk_of(routine), tuple)
        else:
            self.assertNotEqual(told_on(routine, stack)[1], told_on(other, stack)[1])
        endless = endless_behind(routine, other)
        for some in stacks(2):
            behind = told_behind(routine, other, some)
            handed = told_on(routine, some)
            self.assertEqual(behind[:3], told_on(other, handed[1])[:3])
            self.assertTrue(behind != ("never",) or endless is not None)


class Groups(unittest.TestCase):
    def test_deeds_of_texts(self):
        counts = {"states": 0, "thinner": 0, "kept": 0, "deep": 0}
        for text, answers in zip(random_texts(109, 500, 16, 400, GROUPED), random_answers(110, 500, 3)):
            if raised(deeds_of, (text, answers, 2000)) is not None:
                continue
            deeds = deeds_of(text, answers, 2000)
            told, behind = done_deeds(EMPTY, deeds)
            state = state_of(text, answers, 2000)
            if state is not None:
                registers = tuple((tuple((key, value) for key, value in values if key[0] in ("num", "len")), kept) for _, values, kept in state[0])
                self.assertEqual(behind, registers, text)
                counts["states"] += 1
                counts["deep"] += len(state[0]) > 2
            thinned = thinned_deeds(deeds)
            self.assertIs(are_alike(deeds, thinned), True)
            self.assertIsNone(parting_state(deeds, thinned))
            self.assertEqual((idle_deeds(thinned), idle_groups(thinned)), ([], []))
            self.assertEqual(form_of(thinned), form_of(deeds))
            self.assertEqual(done_deeds(EMPTY * 40, thinned), done_deeds(EMPTY * 40, deeds))
            counts["thinner"] += len(thinned) < len(deeds)
            for at in range(0, len(deeds), 3):
                place = places_of(deeds, at)[0]
                moved = deeds[:at] + deeds[at + 1:]
                self.assertIs(are_alike(moved[:place] + deeds[at:at + 1] + moved[place:], deeds), True)
            for way in ("each", "first"):
                stack, most = stack_by(EMPTY, deeds, way)
                self.assertEqual(state_told(stack), behind)
                self.assertGreaterEqual(len(stack[1]), len(least_stack(behind)[1]))
                self.assertGreaterEqual(most, sum(entry[0] == "back" for entry in stack[1]))
            counts["kept"] += any(sort == "token" for sort, _ in told)
        self.assertGreater(min(counts.values()), 20, counts)


class Setting(unittest.TestCase):
    def test_strips_that_texts_bring(self):
        counts = {"strips": 0, "packed": 0, "cut": 0, "uncut": 0, "taken": 0, "stopped": 0}
        # The first text is a passage whose lines stop when they are taken one by one.
        texts = ["a!kern-5 !space0 5 0 0 0 !place0 a!kern-5 !place0 a!kern-5;\n"] + random_texts(111, 250, 10, 300, SETTING)
        for text in texts:
            end = run_of(text, (), 2000)[0]
            things = end[1] if end[0] == "done" else end[3][0] if end[0] == "error" else ()
            if not is_strip(things) or len(things) > 14:
                continue
            counts["strips"] += 1
            natural = strip_width(things)
            widths = range(natural - 12, natural + 13)
            for at in range(len(things) + 1):
                halves = all(set_halves(things, at, width) == set_places(things, width) for width in widths)
                self.assertIs(may_cut(things, at), halves, (things, at))
                counts["cut" if halves else "uncut"] += 1
            for start, stop in ((0, len(things)), (0, len(things) // 2), (len(things) // 3, len(things))):
                if raised(packed, (things, start, stop)) is None and may_pack(things, start, stop):
                    with_box = packed(things, start, stop)
                    self.assertTrue(all(set_places(with_box, width) == set_places(things, width) for width in widths))
                    counts["packed"] += 1
            passage = things + (("place", 0),)
            if is_passage(passage):
                self.check_passage(passage, counts)
        self.assertGreater(counts.pop("stopped"), 0)
        self.assertGreater(min(counts.values()), 5, counts)

    def check_passage(self, passage, counts):
        shown = taking_shown(passage, 1)
        self.assertIs(may_take(passage, 1), shown is None)
        if shown is not None:
            self.assertIsNone(lines_taken(passage, 1, shown))
            self.assertIsNotNone(some_lines(passage, 1, shown))
            counts["stopped"] += 1
        last = sum(thing[0] == "place" for thing in passage) - 1
        for width in range(0, 40, 3):
            lines = some_lines(passage, 1, width)
            if shown is None:
                self.assertIs(lines_taken(passage, 1, width) is None, lines is None)
                counts["taken"] += lines is not None
            if lines is not None and len(lines) <= 3:
                # The lines fit some row of as many widths.
                rows = width_rows(passage, 1, len(lines))
                self.assertTrue(any(all(least <= width <= most for least, most in row) for row in rows))
                self.assertIsNone(parting_widths(passage, passage, 1, len(lines)))
        fit = fit_between(passage, 1, -1, last)
        self.assertEqual(width_rows(passage, 1, 1), [] if fit is None else [(fit,)])


class Walks(unittest.TestCase):
    def test_steps_that_come_of_others(self):
        counts = {"others": 0, "texts": 0, "things": 0}
        texts = random_texts(112, 60, 14) + [RULES + (text or "\n") for text in random_texts(115, 40, 14, 300, NESTED)]
        for text, answers in zip(texts, random_answers(113, 100, 4)):
            walk = gone_further((text, answers, 0), 60)
            if run_of(text, answers, 61)[1] == walk[2]:
                self.assertIs(walk_ended(walk), True)
            brought = brought_of(*walk)
            for index in range(0, walk[2], 3):
                way = way_of(walk, index)
                # A step comes of another one that was ahead of it, or of the text; from each one comes to the text.
                self.assertEqual(brought[way[-1]], -1)
                self.assertTrue(all(one > two for one, two in zip(way, way[1:])))
                self.assertTrue(all(index in come_of(walk, step) for step in way))
                self.assertEqual(source_of(walk, index), source_of(walk, way[-1]))
                counts["others" if len(way) > 1 else "texts"] += 1
                back = gone_back(walk, walk[2] - index - 1)
                self.assertEqual(way_of(back, index), way)
            things = [thing for _, _, thing in things_told(walk)]
            self.assertEqual(things, [event[1] for _, _, event in events_of(*walk) if event[0] == "come"])
            counts["things"] += len(things)
        self.assertGreater(min(counts.values()), 30, counts)


class Files(unittest.TestCase):
    def test_files_forms_and_marks(self):
        source = random.Random(114)
        spots = list(itertools.product((0, 9), (0, 50), (0, -300)))
        for _ in range(200):
            lengths = [source.choice((0, 4, 4, 120, -4, 77)) for _ in range(source.randint(1, 12))]
            marks = tuple((500 + sum(lengths[:at + 1]), source.choice("ab")) for at in range(len(lengths)))
            light = light_file(marks)
            plain, place = (), 0
            for number, sign in marks:
                plain += (("move", number - place), ("put", sign))
                place = number
            self.assertTrue(puts_marks(light, marks) and puts_marks(plain, marks))
            self.assertLessEqual(file_weight(light), file_weight(plain))
            self.assertTrue(is_set_out(light) and is_set_out(plain))
            self.assertEqual(form_of_file(light)[0], form_of_file(plain)[0])
            spot = parting_spot(light, plain)
            self.assertIs(spot is None, form_of_file(light) == form_of_file(plain))
            for some in spots:
                self.assertEqual(shown_by_file(light, some)[0], shown_by_file(plain, some)[0])
            if spot is not None:
                self.assertNotEqual(shown_by_file(light, spot)[1], shown_by_file(plain, spot)[1])
            # What a text brings is the same for the spots: in braces of its own it leaves them as they were.
            pushed = (("push",), *light, ("pop",))
            self.assertEqual(form_of_file(pushed), (form_of_file(plain)[0], form_of_file(())[1]))


if __name__ == "__main__":
    unittest.main()
