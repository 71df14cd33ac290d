"""The package keeps to its subset of Python, as far as a test can see it; and its interface is where it belongs."""

import ast
import builtins
import importlib
import inspect
import pathlib
import unittest

PACKAGE = pathlib.Path(__file__).resolve().parent.parent / "settlepages"
FILES = sorted(PACKAGE.glob("*.py"))
TREES = {path.stem: ast.parse(path.read_text()) for path in FILES}
BUILTINS = set(
    "len range enumerate zip min max sum abs sorted reversed int str bool bytes list tuple dict set isinstance ord repr "
    "any all divmod property Exception ValueError KeyError True False None".split()
)
METHODS = set(
    "append clear copy count endswith extend find get index insert isalnum isalpha isdigit islower isspace isupper items "
    "join keys ljust lower lstrip partition pop remove replace reverse rfind rjust rpartition rsplit rstrip setdefault "
    "split splitlines startswith strip update upper values zfill bit_length".split()
)
DOUBLE = set("__init__ __len__ __bool__ __eq__".split())
NEVER = set("register mro elements open input law version_info with_traceback add_note".split())
NEVER_ATTRIBUTES = set("items keys values pop update append clear extend insert remove reverse setdefault sort args "
                       "encode decode hex fromhex format format_map".split())
WORDS = set("type typing enum Enum namedtuple dataclass overload contextmanager abstractmethod Protocol".split())
INTERFACE = {
    "kinds": {"is_text": 1, "is_table": 1, "kind_by": 2},
    "cutting": {"cut_once": 4, "cuts_of": 2},
    "runs": {
        "run_of": 3, "events_of": 3, "brought_of": 3, "read_of": 3, "state_of": 3, "run_cut": 4, "parting_lines": 3,
    },
    "tokenrows": {"is_token_row": 1, "row_told": 2, "refused_at": 2},
    "leasttexts": {"least_text": 2, "plain_text": 2, "count_texts": 4},
    "tableparts": {"parting_text": 3, "kinds_let": 3},
    "nearesttables": {"nearest_table": 2, "row_clash": 1, "is_row_clash": 2},
    "moments": {"moments_of": 1},
    "aheads": {"cut_ahead": 1, "parting_answers": 1},
    "linecuts": {"unfit_answers": 2, "fewest_stops": 1, "mended": 2, "are_let": 2, "fewest_mends": 1},
    "pairshapes": {"is_pairs": 1, "shape_of": 2, "endless_word": 1, "pairs_met": 1},
    "alikeshapes": {"unlike_word": 2, "alike_paper": 2, "is_alike_paper": 3, "idle_rows": 1},
    "shapecuts": {"cut_pairs": 1, "uncut_words": 3},
    "shapefinds": {"word_for": 2, "felt_far": 1, "felt_words": 1},
    "rowworks": {"are_values": 1, "is_plain_row": 1, "are_choices": 1, "row_worked": 3, "changed_values": 3},
    "rowcodes": {"least_code": 4, "is_row_code": 2, "code_told": 3, "unlike_case": 4, "needed_keys": 3},
    "earlyrules": {"rule_early": 2, "rule_late": 2, "unlike_use": 3, "use_codes": 3},
    "paragraphs": {
        "is_paragraph": 1, "are_costs": 1, "way_cost": 3, "least_way": 2, "price_paper": 2, "is_price_paper": 3,
    },
    "linekeys": {"is_enough": 2, "key_way": 3, "parting_paragraph": 2, "do_split": 1, "parting_pair": 1},
    "linedrops": {"is_safe": 1, "dropping_way": 2, "dropped_pair": 1},
    "routines": {"is_routine": 1, "turned": 3, "told_on": 2},
    "resting": {"pairs_told": 1, "endless_stack": 1, "is_rest_paper": 2, "rest_paper": 1},
    "handing": {"walk_of": 1, "handing_stack": 2, "is_none_paper": 3, "none_paper": 2},
    "behind": {"told_behind": 3, "endless_behind": 2},
    "alike": {"hand_out_alike": 2, "parting_stack": 2, "is_handed_paper": 3, "handed_paper": 2},
    "grouprows": {"is_deeds": 1, "is_state": 1, "done_deeds": 2, "deeds_of": 3},
    "groupforms": {"form_of": 1, "are_alike": 2, "parting_state": 2},
    "groupmoves": {"places_of": 2, "idle_deeds": 1, "idle_groups": 1, "thinned_deeds": 1},
    "groupstacks": {"state_told": 1, "least_stack": 1, "stack_by": 3},
    "strips": {"is_strip": 1, "is_passage": 1, "strip_width": 1, "set_places": 2},
    "packing": {"packed": 3, "may_pack": 3, "packing_shown": 3, "set_halves": 3, "may_cut": 2, "cut_shown": 2},
    "taking": {"fit_between": 4, "lines_taken": 3, "some_lines": 3, "may_take": 2, "taking_shown": 2},
    "widthrows": {"width_rows": 3, "parting_widths": 4},
    "walks": {"is_walk": 1, "walk_ended": 1, "gone_further": 2, "gone_back": 2},
    "sources": {"way_of": 2, "source_of": 2, "come_of": 2, "things_told": 1},
    "movefiles": {"is_file": 1, "shown_by_file": 2, "file_weight": 1},
    "fileforms": {"form_of_file": 1, "parting_spot": 2, "is_set_out": 1},
    "lightfiles": {"puts_marks": 2, "light_file": 1},
}
READER = {"__init__": 1, "enter": 2, "undo": 1, "redo": 1, "lines": 1, "levels": 1, "__len__": 1, "__bool__": 1, "__eq__": 2}
ERRORS = (
    "InvalidText, InvalidTable, InvalidSign, InvalidIndex, InvalidStanding, InvalidAnswers, InvalidNumber, TooMany, InvalidRow, "
    "InvalidSigns, InvalidStops, InvalidMends, InvalidPairs, Endless, UnlikeLetters, InvalidWord, InvalidLetter, InvalidThings, "
    "InvalidValues, InvalidChoices, InvalidCase, InvalidRowCode, InvalidUses, Refused, InvalidParagraph, InvalidCosts, InvalidWay, "
    "InvalidKey, InvalidLot, InvalidRoutine, InvalidStack, InvalidMarks, NeverRests, InvalidDeeds, InvalidState, NoGroup, "
    "InvalidStrip, InvalidPassage, InvalidWidth, InvalidWalk, InvalidStep, InvalidFile, InvalidSpot, InvalidLine, CannotEnter, "
    "NothingToUndo, NothingToRedo"
).split(", ")


def nodes(kind):
    """All nodes of a kind, with the names of their files."""
    return [(name, node) for name, tree in TREES.items() for node in ast.walk(tree) if isinstance(node, kind)]


def is_plain(node, functions):
    if isinstance(node, ast.Constant):
        return True
    if isinstance(node, ast.UnaryOp) and isinstance(node.op, ast.USub):
        return is_plain(node.operand, ())
    if isinstance(node, ast.BinOp):
        return is_plain(node.left, ()) and is_plain(node.right, ())
    if isinstance(node, (ast.Tuple, ast.List)):
        return all(is_plain(item, functions) for item in node.elts)
    if isinstance(node, ast.Dict):
        return all(is_plain(item, functions) for item in node.keys + node.values)
    return isinstance(node, ast.Name) and node.id in functions


class Files(unittest.TestCase):
    def test_files(self):
        self.assertIn("__init__", TREES)
        self.assertLessEqual(len(FILES), 100)
        for path in PACKAGE.iterdir():
            self.assertTrue(path.suffix == ".py" or path.name == "__pycache__", path)
            self.assertFalse(path.is_dir() and path.name != "__pycache__", path)
        for path in FILES:
            text = path.read_text()
            self.assertRegex(path.stem, r"^[a-z_][a-z0-9_]*$")
            self.assertTrue(all(character == "\n" or " " <= character <= "~" for character in text), path)
            lines = text.split("\n")
            self.assertLessEqual(len(lines) - 1, 399, path)
            self.assertLessEqual(max(map(len, lines)), 120, path)
            self.assertTrue(text == "" or text.endswith("\n"), path)

    def test_functions_are_short(self):
        for name, node in nodes(ast.FunctionDef):
            self.assertLessEqual(node.end_lineno - node.lineno + 1, 40, (name, node.name))
            for decorator in node.decorator_list:
                self.assertEqual((name, decorator.id), ("readers", "property"))
            if node.name != "__init__":
                self.assertIsNotNone(ast.get_docstring(node), (name, node.name))

    def test_module_level(self):
        for name, tree in TREES.items():
            seen, functions = set(), set()
            for at, node in enumerate(tree.body):
                if isinstance(node, ast.ImportFrom):
                    names = [alias.name for alias in node.names]
                elif isinstance(node, (ast.FunctionDef, ast.ClassDef)):
                    names = [node.name]
                    functions.add(node.name)
                elif isinstance(node, ast.Assign):
                    self.assertEqual(len(node.targets), 1)
                    self.assertTrue(is_plain(node.value, functions), (name, node.lineno))
                    names = [node.targets[0].id]
                else:
                    self.assertTrue(at == 0 and isinstance(node, ast.Expr), (name, node.lineno))
                    names = []
                for bound in names:
                    self.assertNotIn(bound, seen, name)
                    seen.add(bound)

    def test_imports(self):
        self.assertEqual(nodes(ast.Import), [])
        imports = {name: set() for name in TREES}
        for name, node in nodes(ast.ImportFrom):
            self.assertEqual(node.level, 0)
            module = node.module.removeprefix("settlepages.")
            self.assertIn(module, TREES, (name, node.module))
            imports[name].add(module)
            defined = {item.name for item in TREES[module].body if isinstance(item, (ast.FunctionDef, ast.ClassDef))}
            defined |= {item.targets[0].id for item in TREES[module].body if isinstance(item, ast.Assign)}
            for alias in node.names:
                self.assertIsNone(alias.asname)
                self.assertIn(alias.name, defined, (name, module))
        done = []
        while len(done) < len(imports):
            ready = [name for name in imports if name not in done and imports[name] <= set(done)]
            self.assertTrue(ready, "files import from each other")
            done += ready

    def test_imports_are_used(self):
        for name, tree in TREES.items():
            used = {node.id for node in ast.walk(tree) if isinstance(node, ast.Name)}
            for node in tree.body:
                if isinstance(node, ast.ImportFrom):
                    for alias in node.names:
                        self.assertIn(alias.name, used, name)


class Names(unittest.TestCase):
    def bound_names(self):
        found = [(name, node.id) for name, node in nodes(ast.Name) if isinstance(node.ctx, ast.Store)]
        found += [(name, node.arg) for name, node in nodes(ast.arg)]
        found += [(name, node.name) for name, node in nodes((ast.FunctionDef, ast.ClassDef))]
        return found + [(name, node.name) for name, node in nodes(ast.ExceptHandler) if node.name]

    def test_bound_names(self):
        methods = {item.name for _, node in nodes(ast.ClassDef) for item in node.body if isinstance(item, ast.FunctionDef)}
        for name, bound in self.bound_names():
            self.assertNotIn(bound, NEVER, name)
            if bound not in DOUBLE:
                self.assertFalse(bound.startswith("__"), (name, bound))
            if bound not in methods and bound != "_" and bound not in DOUBLE:
                self.assertFalse(hasattr(builtins, bound), (name, bound))

    def test_names_of_imports_and_classes_are_not_given_again(self):
        for name, tree in TREES.items():
            taken = {alias.name for node in tree.body if isinstance(node, ast.ImportFrom) for alias in node.names}
            taken |= {node.name for node in tree.body if isinstance(node, ast.ClassDef)}
            taken |= {node.name for node in tree.body if isinstance(node, ast.FunctionDef)}
            for node in ast.walk(tree):
                if isinstance(node, ast.Name) and isinstance(node.ctx, ast.Store):
                    self.assertNotIn(node.id, taken, (name, node.lineno))
                elif isinstance(node, ast.arg):
                    self.assertNotIn(node.arg, taken, (name, node.lineno))

    def test_builtins(self):
        bound = {}
        for name, word in self.bound_names():
            bound.setdefault(name, set()).add(word)
        for name, node in nodes(ast.ImportFrom):
            bound.setdefault(name, set()).update(alias.name for alias in node.names)
        for name, node in nodes(ast.Name):
            if isinstance(node.ctx, ast.Load) and node.id not in bound[name]:
                self.assertIn(node.id, BUILTINS, (name, node.lineno))

    def test_attributes_and_methods(self):
        methods, attributes = set(), set()
        for _, node in nodes(ast.ClassDef):
            for item in node.body:
                if isinstance(item, ast.FunctionDef):
                    methods.add(item.name)
        for name, node in nodes(ast.Attribute):
            self.assertNotIn(node.attr, NEVER)
            self.assertTrue(not node.attr.startswith("__"), (name, node.attr))
            if isinstance(node.ctx, ast.Store):
                attributes.add(node.attr)
                self.assertNotIn(node.attr, NEVER_ATTRIBUTES, name)
        self.assertEqual(methods & attributes, set())
        called = {id(node.func) for _, node in nodes(ast.Call)}
        for name, node in nodes(ast.Attribute):
            if id(node) in called:
                self.assertIn(node.attr, methods | METHODS, (name, node.lineno))
            elif isinstance(node.ctx, ast.Load):
                self.assertIn(node.attr, attributes, (name, node.lineno))


class Statements(unittest.TestCase):
    def test_what_does_not_stand(self):
        for kind in (
            ast.Global, ast.Nonlocal, ast.AsyncFunctionDef, ast.Yield, ast.YieldFrom, ast.Lambda, ast.Set, ast.SetComp,
            ast.GeneratorExp, ast.With, ast.AnnAssign, ast.NamedExpr, ast.Div, ast.Pow, ast.Assert, ast.Match,
        ):
            if kind is ast.Pow:
                for name, node in nodes(ast.BinOp):
                    if isinstance(node.op, ast.Pow):
                        self.assertIsInstance(node.right, ast.Constant, (name, node.lineno))
                continue
            self.assertEqual(nodes(kind), [], kind)

    def test_is(self):
        for name, node in nodes(ast.Compare):
            for op, right in zip(node.ops, node.comparators):
                if isinstance(op, (ast.Is, ast.IsNot)):
                    self.assertIsInstance(right, ast.Constant, (name, node.lineno))

    def test_raised_errors(self):
        for name, node in nodes(ast.Raise):
            self.assertIsInstance(node.exc, ast.Call, (name, node.lineno))
            self.assertIsInstance(node.exc.func, ast.Name)

    def test_views_are_iterated_at_once(self):
        fine = set()
        for _, node in nodes((ast.For, ast.comprehension)):
            fine.add(id(node.iter))
        for _, node in nodes(ast.Call):
            if isinstance(node.func, ast.Name) and node.func.id in ("list", "tuple", "dict", "sorted", "sum", "reversed"):
                fine.update(id(argument) for argument in node.args)
        for name, node in nodes(ast.Call):
            view = isinstance(node.func, ast.Attribute) and node.func.attr in ("items", "keys", "values")
            lazy = isinstance(node.func, ast.Name) and node.func.id in ("zip", "enumerate", "reversed", "range")
            if view or lazy:
                self.assertIn(id(node), fine, (name, node.lineno))

    def test_strings(self):
        documents = set()
        for _, node in nodes((ast.Module, ast.FunctionDef, ast.ClassDef)):
            if node.body and isinstance(node.body[0], ast.Expr):
                documents.add(id(node.body[0].value))
        for name, node in nodes(ast.Constant):
            if isinstance(node.value, str):
                self.assertNotIn(chr(37), node.value, (name, node.lineno))
                self.assertNotIn("__", node.value, (name, node.lineno))
                if id(node) not in documents:
                    self.assertFalse(set(node.value.split()) & WORDS, (name, node.lineno))
            self.assertNotIsInstance(node.value, (float, complex, bytes), (name, node.lineno))


class Interface(unittest.TestCase):
    def test_functions(self):
        for module, functions in INTERFACE.items():
            defined = {node.name for node in TREES[module].body if isinstance(node, ast.FunctionDef)}
            for function, many in functions.items():
                self.assertIn(function, defined)
                made = getattr(importlib.import_module("settlepages." + module), function)
                parameters = inspect.signature(made).parameters.values()
                self.assertEqual(len(parameters), many, function)
                self.assertTrue(all(one.default is inspect.Parameter.empty for one in parameters))

    def test_reader(self):
        (reader,) = [node for node in TREES["readers"].body if isinstance(node, ast.ClassDef) and node.name == "Reader"]
        methods = {node.name: node for node in reader.body if isinstance(node, ast.FunctionDef)}
        for method, many in READER.items():
            self.assertEqual(len(methods[method].args.args), many, method)
        properties = {name for name, node in methods.items() if node.decorator_list}
        self.assertEqual(properties, {"lines", "levels"})

    def test_names_of_properties_are_no_attributes_and_no_methods(self):
        stored = {node.attr for _, node in nodes(ast.Attribute) if isinstance(node.ctx, ast.Store)}
        methods = [item.name for _, node in nodes(ast.ClassDef) for item in node.body if isinstance(item, ast.FunctionDef)]
        for name in ("lines", "levels"):
            self.assertNotIn(name, stored)
            self.assertEqual(methods.count(name), 1)

    def test_errors(self):
        module = importlib.import_module("settlepages.errors")
        self.assertEqual(module.SettleError.__bases__, (ValueError,))
        made = {name for name, value in vars(module).items() if isinstance(value, type)}
        self.assertEqual(made, {"SettleError", *ERRORS})
        for name in ERRORS:
            self.assertEqual(getattr(module, name).__bases__, (module.SettleError,), name)
        self.assertEqual((module.TooMany(7).limit, module.Refused("row").word), (7, "row"))


if __name__ == "__main__":
    unittest.main()
