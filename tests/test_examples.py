"""The examples of the document's interface, to the sign."""

import doctest
import importlib
import unittest

MODULES = (
    "errors", "kinds", "cutting", "runs", "tokenrows", "leasttexts", "tableparts", "nearesttables", "moments",
    "aheads", "linecuts", "pairshapes", "alikeshapes", "shapecuts", "shapefinds", "rowworks", "rowcodes", "earlyrules",
    "paragraphs", "linekeys", "linedrops", "routines", "resting", "handing", "behind", "alike",
    "grouprows", "groupforms", "groupmoves", "groupstacks", "strips", "packing", "taking", "widthrows", "walks", "sources",
    "movefiles", "fileforms", "lightfiles", "readers",
)

EXAMPLES = r'''
>>> T = (("a", 6), ("~", 1))
>>> [is_text("a"), is_text("a\n"), is_table(T), is_table((("a", 5),)), kind_by(T, "a"), kind_by((), "\n")]
[False, True, True, False, 6, 9]

>>> [cut_once((), "!ab c\n", 0, "new"), cut_once((), "!+ \n", 0, "new"), cut_once((), "  \n", 1, "skip"), cut_once((("a", 9),), "abc\n", 0, "within")]
[(('name', 'ab'), 3, 'skip'), (('name', '+'), 2, 'within'), (None, 2, 'skip'), ((4, ' '), 4, 'new')]
>>> cuts_of((), " a! b;c\n\n(\n")
[((5, 'a'), 1, 2), (('name', ' '), 2, 4), ((5, 'b'), 4, 5), (('name', 'par'), 8, 9), ((1, '('), 9, 10), ((4, ' '), 10, 11)]

>>> S = ("space", 0, 0, 0, 0, 0)
>>> A, B, C = "ab !kern 5 c\n", "!rule!f$1($1!kern!num0 )(!num0=7 !f(xy))!f z\n", "!kind!q=1q!free b!else c!endtest)\n"
>>> run_of(A, (), 99) == (("done", (("sign", "a"), ("sign", "b"), S, ("kern", 5), ("sign", "c"), S)), 6)
True
>>> run_of(B, (), 99) == (("done", (("sign", "x"), ("sign", "y"), ("kern", 7), S, ("sign", "z"), ("kern", 0), S, S)), 14)
True
>>> [run_of(C, (True,), 99) == (("done", (("sign", "b"), S)), 7), run_of(C, (), 99)[0][1][0], run_of(A, (), 3), run_of("a)\n", (), 9)]
[True, ('sign', 'c'), (('more',), 3), (('error', 'extra', 2, ((('sign', 'a'),),)), 2)]
>>> events_of("(!num1=5 )\n", (), 99) == [(1, 1, ("do", (1, "("))), (1, 1, ("level", "brace")), (2, 5, ("do", ("name", "num"))), (2, 9, ("set", ("num", "1"), 5, False)), (3, 10, ("do", (2, ")"))), (3, 10, ("left", "brace")), (3, 10, ("back", ("num", "1"))), (4, 11, ("do", (4, " "))), (4, 11, ("come", S))]
True
>>> brought_of(B, (), 99)
[-1, -1, -1, -1, 3, 3, 3, 3, -1, -1, 9, 9, 9, -1]
>>> [state_of("(!num1=5;\n", (), 99), run_cut(A, A, (), 99) == run_of(A + A, (), 99), parting_lines(A, (), 99), parting_lines("!num1=5;\n", (), 99) is None]
[((('text', (), ()), ('brace', ((('num', '1'), 5),), ())), ((),), (), (), 10, True), True, None, False]

>>> [row_told((), " a! b;c\n\n(\n"), is_token_row(((5, "1"),)), is_token_row((("name", "a1"),))]
[((5, 'a'), ('name', ' '), (5, 'b'), ('name', 'par'), (1, '('), (4, ' ')), False, False]
>>> [refused_at(((";", 6),), ((5, "a"),)), refused_at((), ((5, "a"), (4, " "), (4, " "))), refused_at((("!", 6),), (("name", "a"),)), refused_at((), ((6, "a"),)), refused_at((), ((5, "a"),))]
[(1, 'end'), (2, 'space'), (0, 'name'), (0, 'kind'), None]

>>> [least_text((), row_told((), " a! b;c\n\n(\n")), least_text((), ((5, "a"),)), least_text(((";", 6),), ((5, "a"),)), plain_text((), "  !ab   c \n \n")]
['a! b;\n\n(\n', 'a;\n', None, '!ab\nc\n\n']
>>> [count_texts((), ((5, "a"), (4, " ")), (" ", "a"), 3), count_texts((), (), ("a",), 0)]
[2, 1]

>>> [parting_text((), (("a", 6),), ("a",)), parting_text((), ((" ", 9),), (" ",)), parting_text((), ((" ", 9),), (" ", "a"))]
['a\n', None, ' a\n']
>>> [kinds_let((), "!ab\n", "a"), kinds_let((), "!ab;a\n", "c")]
[(5,), (0, 1, 2, 3, 4, 5, 6, 7, 8, 9)]

>>> [nearest_table((), ((6, "a"), (4, " "))), nearest_table((), ((5, "a"), (6, "a"))), row_clash(((5, "a"), (6, "a"))), is_row_clash((("name", "ab"), (4, " ")), ("space", 1))]
[(('a', 6),), None, ('kinds', 0, 1, 'a'), True]

>>> L = (("text", (), ()),)
>>> moments_of("a\n") == [(0, "new", (), L, ()), (1, "within", (), L, ()), (2, "new", (), L, ())]
True
>>> [moment[0] for moment in moments_of("!free b!else!endtest;c\n")], [moment[4] for moment in moments_of("!free b!endtest\n")]
([0, 12, 5, 20, 7], [(), (), (False,), (False,)])

>>> U = "!free!kind!q4!else!endtest q\n"
>>> [cut_ahead("a\n"), cut_ahead(U), parting_answers("a\n"), len(parting_answers(U))]
[(((5, 'a'), 0, 1, 'within'), ((4, ' '), 1, 2, 'new'), (None, 2, 2, 'new')), None, None, 2]

>>> [fewest_stops("a\nb\n"), fewest_stops(U), unfit_answers(U, ())[:1], fewest_stops("!kind!q4\nq\nq\n")]
[(), None, (True,), (9,)]
>>> [mended("ab\n", (0, 1)), are_let("a b\n", (1,)), are_let("a b\n", (2,)), fewest_mends("a\nb\n"), fewest_mends(U), fewest_mends("!kind!;6;\n")]
[';\na;\nb\n', False, True, (), (13,), None]

>>> E = ("fil", (("f", "f", ("kern", 2)), ("f", "i", ("put", "l", 0, 0, 0)), ("l", "", ("kern", -1))))
>>> N = ("ab", (("", "a", ("put", "b", 1, 0, 1)), ("a", "b", ("put", "a", 1, 1, 0)), ("b", "a", ("put", "b", 1, 0, 1))))
>>> [shape_of(E, "ffi"), endless_word(E), endless_word(("ab", N[1][1:2])), endless_word(N), pairs_met(N)[1]]
[(('sign', 'f'), ('kern', 2), ('sign', 'l'), ('kern', -1)), None, 'ab', None, ('', 'b', (), 'b')]

>>> M = ("ab", (("a", "b", ("kern", 1)),))
>>> [unlike_word(M, ("ab", ())), alike_paper(M, N), is_alike_paper(M, M, (("", "", ((), ())),)), idle_rows(N)]
['ab', None, False, [1]]

>>> [cut_pairs(M), uncut_words(M, "b", "a")]
[[('a', 'a'), ('b', 'a'), ('b', 'b')], None]

>>> K = ("ab", (("a", "b", ("put", "a", 1, 0, 0)),))
>>> [word_for(E, (("sign", "l"), ("kern", -1))), word_for(E, (("kern", 2),)), felt_far(M), felt_far(K), word_for(K, (("sign", "a"),) * 3)]
['l', None, 1, None, 'aaa']

>>> V, R = ((("num", "0"), 3),), ((0, "x"),)
>>> F = (("name", "equal"), ("name", "num"), (6, "0"), (6, "3"), (4, " "), (5, "a"), ("name", "else"), (5, "b"), ("name", "endtest"))
>>> [are_values(V), is_plain_row(R), row_worked(V, F, ()), row_worked((), F, ()), row_worked(V, F[1:], ())]
[True, False, ('row', ((5, 'a'),)), ('row', ((5, 'b'),)), ('error', 'test')]
>>> D = ((("num", "0"), (0, 3, 4)), (("num", "1"), (0, 1)))
>>> [are_choices(D), changed_values(V, D, (0, 1)), changed_values(V, D, (2, 0))]
[True, ((('num', '1'), 1),), ((('num', '0'), 4),)]

>>> L = least_code(V, D, F, ())
>>> [L, is_row_code(D, L), code_told(D, L, (1, 1)), unlike_case(V, D, F, ((5, "b"),)) in ((1, 0), (1, 1)), needed_keys(V, D, F), needed_keys(V, D, F[5:6])]
[(('end', ('row', ((5, 'b'),))), ('end', ('row', ((5, 'a'),))), ('ask', ('num', '0'), (0, 1, 0))), True, ('row', ((5, 'a'),)), True, [('num', '0')], []]

>>> U = ("f", (None,), (("name", "text"), ("name", "num"), (6, "0"), (3, "$"), (6, "1")), ((("name", "f"), (5, "z")),))
>>> [rule_early(V, U), unlike_use(V, D[1:], U), unlike_use(V, D, U)[0], use_codes(V, D[1:], U)[0][0]]
[('rule', (None,), ((6, '3'), 0)), None, 0, (('end', ('row', ((6, '3'), (5, 'z')))),)]

>>> X = ((20, 30), 1, 0, 7, (0, 0))
>>> P = (("box", 20), ("place", 3, 1, 0, 0, 5), ("gap", 9, 0, 0), ("box", 30), ("place", None, 0, 0, 0, 0), ("box", 4))
>>> [way_cost(P, X, ((1, "plain"), (4, "marked"))), way_cost(P, X, ((1, "marked"), (4, "marked"))), way_cost(P, X, ((1, "plain"),)), least_way(P, X)]
[3, 8, None, ((1, 'plain'), (4, 'marked'))]

>>> [key_way(P, X, (8, False, False)), is_enough(X, (0, False, True)), is_enough(X, (8, True, False)), do_split(X), parting_pair(((20,), 1, 0, 0, (0, 5)))]
[((1, 'marked'), (4, 'marked')), True, False, False, None]

>>> [is_safe((P[1], P[2])), is_safe((("gap", 0, 0, 1),)), dropping_way((("box", 21), ("place", 0, None, 0, 0, 0), ("gap", 0, 0, 1)), X)]
[True, False, None]

>>> R = ((((0,), (), 0), ((1,), (0,), 1), ((), (1, 1), 0), ((2,), (), -1)), (((), (), 0), ((), (), -1), ((2,), (2,), 0), ((), (0,), 0)))
>>> U = ((((), (0,), 0), ((), (), 0), ((), (1, 2), 0), ((), (), -1)),)
>>> [turned(R, (2, 0), 99), turned(R, (2, 0), 6), told_on(U, (1, 1)), told_on(U, (1, 2))]
[('rest', (1, 1, 0, 2), (), 7), ('more',), ('rest', (), (), 3), ('never',)]

>>> [pairs_told(R)[1:5], endless_stack(R), endless_stack(U), rest_paper(U)]
[[(0, 1, 0, 2), (0, 2, 0, 5), (0, 3, 'rest', 1), (1, 0, 0, 1)], None, (0,), None]
>>> is_rest_paper(R, ((0, 0, 0, 1), (0, 1, 0, 2), (0, 2, 0, 5), (0, 3, -1, 1), (1, 0, 0, 1)))
True

>>> [walk_of(R), handing_stack(R, (1, 1, 2)), none_paper(R, (2,)), is_none_paper(R, (1,), ((0, 0), (0, 1)))]
[((0, 0, (0,), 0), (0, 1, (1,), 0), (0, 2, (1, 1), 0), (0, 3, (2,), -1)), (2,), None, True]

>>> V = ((((), (), 0), ((0, 0), (), 0), ((), (2,), 1), ((1,), (), -1)), (((), (), 1), ((), (), 1), ((), (), -1), ((), (), -1)))
>>> [told_behind(R, V, (1, 0)), endless_behind(R, U), endless_behind(R, V)]
[('rest', (0, 0), (), 8), (), None]

>>> [hand_out_alike(R, R), parting_stack(V, V), is_handed_paper(V, V, ((-1, -1, (), ()), (0, 0, (), ())))]
[True, None, True]

>>> N, M = ("num", "0"), ("num", "1")
>>> X = (("begin",), ("set", N, 5, False), ("after", (5, "a")), ("more", M, 2, True), ("tell", N), ("end",), ("tell", N))
>>> [done_deeds((((), ()),), X), deeds_of("(!num0=5!after a!everywhere!more!num1 2)\n", (), 99) == X[:3] + (("set", M, 2, True), ("end",))]
[((('number', 5), ('token', (5, 'a')), ('number', 0)), ((((('num', '1'), 2),), ()),)), True]

>>> T, Y = ("old", 1, N, 2), (("end",), ("more", N, 2, True), ("after", (5, "a")), ("begin",), ("copy", M, N, False))
>>> form_of(Y) == (1, (("kept", 0),), ((N, T),), ((N, T),), ((5, "a"),), ((((N, T), (M, T)), ()),))
True
>>> [are_alike((("begin",), ("set", N, 1, True), ("end",)), (("set", N, 1, True),)), parting_state(X, X), parting_state(X, Y) is None]
[True, None, False]

>>> Z = (("set", N, 1, False), ("begin",), ("set", M, 3, True), ("set", N, 2, False), ("end",), ("tell", M))
>>> [places_of(Z, 2), idle_deeds(Z), idle_groups(Z), thinned_deeds(Z)]
[[0, 1, 2, 3, 4], [3], [], (('set', ('num', '0'), 1, False), ('set', ('num', '1'), 3, True), ('tell', ('num', '1')))]

>>> U = ((((N, 1),), ()), (((N, 1), (M, 2)), ((5, "a"),)))
>>> least_stack(U) == (((N, 1), (M, 2)), (("group", ((5, "a"),)), ("back", M, 0)))
True
>>> stack_by(U, (("set", M, 5, False), ("set", M, 6, False)), "each") == ((((N, 1), (M, 6)), (("group", ((5, "a"),)), ("back", M, 0), ("back", M, 2), ("back", M, 5))), 3)
True

>>> P = (("sign", "a"), ("space", 10, 3, 0, 2, 0), ("box", (("sign", "b"),)), ("space", 10, 1, 0, 1, 0), ("sign", "c"))
>>> [strip_width(P), set_places(P, 53), set_places(P, 48), set_places(P, 46)]
[50, ('set', (0, 10, 22, 32, 43, 53)), ('set', (0, 10, 18, 28, 38, 48)), ('tight',)]

>>> D = (("space", 0, 2, 0, 0, 0), ("space", 0, 1, 0, 0, 0), ("space", 0, 3, 0, 0, 0))
>>> [may_pack(P, 0, 3), may_pack(P, 2, 3), may_cut(P, 3), may_cut(D, 2), set_places(D, 3), set_halves(D, 2, 3)]
[False, True, True, False, ('set', (0, 1, 1, 3)), ('set', (0, 0, 1, 3))]

>>> E = (("sign", "a"), ("space", 0, 30, 0, 0, 0), ("place", 0), ("sign", "b"), ("space", 0, 10, 0, 0, 0), ("place", 0), ("box", (("sign", "c"), ("sign", "c"))), ("space", 0, 10, 0, 0, 0), ("place", 0))
>>> [fit_between(E, 1, -1, 0), fit_between(E, 1, 0, 2), lines_taken(E, 1, 35), some_lines(E, 1, 35), may_take(E, 1)]
[(10, 40), (30, 50), None, (0, 2), False]

>>> [width_rows(E, 1, 2), parting_widths(E, P[:1] + E[2:], 1, 1)]
[[((10, 40), (30, 50)), ((20, 60), (20, 30))], (61,)]

>>> W = (B, (), 4)
>>> [is_walk(W), is_walk((B, (), 15)), walk_ended(W), gone_further(W, 99)[2], gone_back(W, 4) == (B, (), 0), walk_ended((B, (), 14))]
[True, False, False, 14, True, True]

>>> W = (B, (), 9)
>>> [way_of(W, 5), source_of(W, 5), come_of(W, 3), way_of(W, 8)]
[(5, 3), 35, [3, 4, 5, 6, 7], (8,)]
>>> things_told((A, (), 4))
[(0, 1, ('sign', 'a')), (1, 2, ('sign', 'b')), (2, 3, ('space', 0, 0, 0, 0, 0)), (3, 8, ('kern', 5))]

>>> F, G = (("put", "a"), ("keep", 0, 5), ("go", 0), ("put", "b")), (("push",), ("put", "a"), ("pop",), ("move", 10), ("put", "b"))
>>> [shown_by_file(F, (1, 2, 3)), shown_by_file(G, (1, 2, 3)), file_weight(F), file_weight(G), is_file((("pop",), ("push",)))]
[(((1, 'a'), (11, 'b')), (11, 5, 3)), (((1, 'a'), (11, 'b')), (11, 2, 3)), 6, 8, False]

>>> F, G = (("put", "a"), ("keep", 0, 5), ("go", 0), ("put", "b")), (("put", "a"), ("go", 1), ("keep", 0, 5), ("go", 0))
>>> [form_of_file(F)[0], form_of_file(G)[1], is_set_out(F), is_set_out(G + (("put", "b"),)), parting_spot(F, F), parting_spot(F, G) is None]
[(((0, 1, 0, 0), 'a'), ((10, 1, 0, 0), 'b')), ((10, 1, 0, 1), (5, 0, 0, 0), (0, 0, 0, 1)), True, False, None, False]

>>> R = ((7, "a"), (14, "b"), (21, "c"), (20, "d"))
>>> [puts_marks(light_file(R), R), file_weight(light_file(R)), puts_marks((("put", "a"),), ((0, "a"),))]
[True, 12, True]

>>> r = Reader()
>>> [r.enter("a!num1=5;\n"), r.enter("(!num1=6 !kern!num1;\n"), r.levels, r.undo(), r.enter("!kern!num1)\n"), r.levels, bool(r), len(r)]
[(('sign', 'a'),), (('kern', 6),), ('text', 'brace'), None, (('kern', 5),), (), False, 2]
'''


class Examples(unittest.TestCase):
    def test_examples_of_the_interface(self):
        names = {}
        for module in MODULES:
            names.update(vars(importlib.import_module("settlepages." + module)))
        test = doctest.DocTestParser().get_doctest(EXAMPLES, names, "interface", None, None)
        told = []
        results = doctest.DocTestRunner().run(test, out=told.append)
        self.assertEqual(results.failed, 0, "".join(told))
        self.assertEqual(results.attempted, 88)


if __name__ == "__main__":
    unittest.main()
