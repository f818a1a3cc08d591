"""The rules of the language that are plain to see in the files of the package, by their numbers."""

import ast
import builtins
import pathlib
import re
import unittest

FOLDER = pathlib.Path(__file__).resolve().parent.parent / "betweenlooks"

LIBRARY = {
    "heapq": {"heappush", "heappop", "heapify", "heapreplace", "heappushpop"},
    "math": {"gcd", "lcm", "isqrt", "comb", "perm", "factorial"},
    "itertools": {"product", "combinations", "permutations"},
}
BUILTINS = set("""len range enumerate zip min max sum abs sorted reversed int str bool bytes list tuple dict set
    frozenset isinstance ord repr any all divmod iter next map super property staticmethod classmethod
    Exception ValueError TypeError KeyError IndexError LookupError ZeroDivisionError ArithmeticError OverflowError
    RuntimeError NotImplementedError AttributeError StopIteration NotImplemented""".split())
METHODS = set("""append clear copy count endswith extend find get index insert isalnum isalpha isdigit islower isspace
    isupper items join keys ljust lower lstrip partition pop remove replace reverse rfind rjust rpartition rsplit
    rstrip setdefault split splitlines startswith strip update upper values zfill bit_length title capitalize swapcase
    casefold center expandtabs removeprefix removesuffix rindex isascii isdecimal isnumeric istitle isidentifier
    isprintable translate sort add discard encode decode hex""".split())
DUNDERS = set("""init eq repr str len enter exit call iter lt le gt ge ne add sub mul floordiv mod pow and or xor
    lshift rshift radd rsub rmul rfloordiv rmod rand ror rxor rlshift rrshift iadd isub imul ifloordiv imod ipow iand
    ior ixor ilshift irshift neg pos invert abs bool contains getitem setitem""".split())
BARRED = {"register", "mro", "elements", "open", "input", "law", "version_info", "with_traceback", "add_note"}
STATEMENTS = (
    ast.Assign, ast.AugAssign, ast.AnnAssign, ast.If, ast.While, ast.For, ast.Return, ast.Break, ast.Continue,
    ast.Pass, ast.Raise, ast.Assert, ast.Delete, ast.Nonlocal, ast.Match, ast.With, ast.Try, ast.Expr,
    ast.FunctionDef, ast.ClassDef, ast.ImportFrom,
)


def builtin_methods():
    """All names of methods that strings, numbers, lists, dicts, sets, tuples and bytes have."""
    return {name for kind in (str, int, list, dict, set, tuple, bytes) for name in dir(kind)}


def bound_names(tree):
    """Each name that a file binds, with its line, attributes and methods aside."""
    methods = {id(row) for node in ast.walk(tree) if isinstance(node, ast.ClassDef) for row in node.body}
    for node in ast.walk(tree):
        if isinstance(node, (ast.FunctionDef, ast.ClassDef)) and id(node) not in methods:
            yield node.name, node.lineno
        elif isinstance(node, ast.Name) and isinstance(node.ctx, ast.Store):
            yield node.id, node.lineno
        elif isinstance(node, ast.arg):
            yield node.arg, node.lineno
        elif isinstance(node, ast.alias):
            yield node.asname or node.name, node.lineno
        elif isinstance(node, ast.ExceptHandler) and node.name:
            yield node.name, node.lineno


class Rules(unittest.TestCase):
    def setUp(self):
        self.files = sorted(FOLDER.rglob("*.py"))
        self.texts = {path: path.read_text(encoding="utf-8") for path in self.files}
        self.trees = {path: ast.parse(text) for path, text in self.texts.items()}
        self.own = {node.name for tree in self.trees.values() for node in ast.walk(tree)
                    if isinstance(node, (ast.FunctionDef, ast.ClassDef))}

    def nodes(self, *kinds):
        for path, tree in self.trees.items():
            for node in ast.walk(tree):
                if isinstance(node, kinds):
                    yield f"{path.name}:{getattr(node, 'lineno', 0)}", node

    def test_l1_nothing_but_files_of_code(self):
        self.assertTrue(self.files)
        for path in FOLDER.rglob("*"):
            if "__pycache__" not in path.parts and path.is_file():
                self.assertRegex(path.name, r"^([a-z][a-z0-9_]*|__init__|__main__)\.py$")

    def test_l2_imports(self):
        for place, node in self.nodes(ast.Import, ast.ImportFrom):
            self.assertIsInstance(node, ast.ImportFrom, place)
            names = {alias.name for alias in node.names}
            self.assertEqual(node.level, 0, place)
            self.assertNotIn("*", names, place)
            if node.module in LIBRARY:
                self.assertLessEqual(names, LIBRARY[node.module], place)
                self.assertFalse([alias for alias in node.names if alias.asname], place)
            else:
                self.assertTrue(node.module == "__future__" or node.module.startswith("betweenlooks."), place)

    def test_l5_and_l28_double_underscores(self):
        for place, node in self.nodes(ast.FunctionDef):
            if node.name.startswith("__"):
                self.assertIn(node.name[2:-2], DUNDERS, place)
        for place, node in self.nodes(ast.ClassDef):
            names = {row.name for row in node.body if isinstance(row, ast.FunctionDef)}
            if "__getitem__" in names:
                self.assertIn("__iter__", names, place)

    def test_l5_operators_and_properties_run_no_generator(self):
        """Nothing is known of objects: what is called off one may be each method of this name, of whatever class."""
        called, waiting, generators = set(), [], set()
        plain, methods, bases = {}, {}, {}
        for _, node in self.nodes(ast.ClassDef):
            bases[node.name] = [base.id for base in node.bases]
            for row in node.body:
                if isinstance(row, ast.FunctionDef):
                    methods.setdefault(row.name, []).append(row)
                    marks = {mark.id for mark in row.decorator_list if isinstance(mark, ast.Name)}
                    if "property" in marks or (row.name.startswith("__") and row.name not in ("__init__", "__iter__")):
                        waiting.append(row)
                    if row.name == "__init__":
                        plain[node.name] = [row]
        for name in bases:
            plain[name] = [row for kind in (name, *bases[name]) for row in plain.get(kind, [])]
        known = {id(row) for rows in methods.values() for row in rows}
        for _, node in self.nodes(ast.FunctionDef):
            if id(node) not in known:
                plain.setdefault(node.name, []).append(node)
            if any(isinstance(part, (ast.Yield, ast.YieldFrom)) for part in ast.walk(node)):
                generators.add(node.name)
        self.assertTrue(waiting)
        while waiting:
            for part in ast.walk(waiting.pop()):
                if isinstance(part, ast.Call) and isinstance(part.func, (ast.Name, ast.Attribute)):
                    is_plain = isinstance(part.func, ast.Name)
                    name = part.func.id if is_plain else part.func.attr
                    if (is_plain, name) not in called and name != "__init__":
                        called.add((is_plain, name))
                        waiting.extend((plain if is_plain else methods).get(name, []))
        names = {name for _, name in called}
        self.assertEqual(names & generators, set())
        self.assertEqual(names & {"sort", "add", "discard", "heappush", "heappop"}, set())

    def test_l6_statements(self):
        for place, node in self.nodes(ast.stmt):
            self.assertIsInstance(node, STATEMENTS, place)
        for place, node in self.nodes(ast.ExceptHandler):
            self.assertIsNotNone(node.type, place)

    def test_l7_numbers_and_generator_expressions(self):
        for place, node in self.nodes(ast.Constant):
            self.assertNotIsInstance(node.value, (float, complex), place)
        for place, node in self.nodes(ast.Div, ast.MatMult, ast.Await):
            self.fail(place)
        for place, node in self.nodes(ast.Call):
            if isinstance(node.func, ast.Name) and node.func.id in ("any", "all", "min", "max", "sum", "sorted"):
                self.assertFalse([arg for arg in node.args if isinstance(arg, ast.GeneratorExp)], place)

    def test_l5_what_is_not_implemented(self):
        for path, tree in self.trees.items():
            returned = [id(node.value) for node in ast.walk(tree) if isinstance(node, ast.Return)]
            for node in ast.walk(tree):
                if isinstance(node, ast.Name) and node.id == "NotImplemented":
                    self.assertIn(id(node), returned, f"{path.name}:{node.lineno}")

    def test_l7_stars_stand_before_names_and_literals(self):
        for place, node in self.nodes(ast.Call):
            for arg in node.args:
                if isinstance(arg, ast.Starred):
                    self.assertIsInstance(arg.value, (ast.Name, ast.Attribute, ast.List, ast.Tuple), place)

    def test_l20_is(self):
        for place, node in self.nodes(ast.Compare):
            for sign, side in zip(node.ops, node.comparators):
                if isinstance(sign, (ast.Is, ast.IsNot)):
                    self.assertTrue(isinstance(side, ast.Constant) and side.value in (None, True, False), place)

    def test_l24_and_l5_sets_are_sorted_or_counted(self):
        for path, tree in self.trees.items():
            calls = [node for node in ast.walk(tree) if isinstance(node, ast.Call) and isinstance(node.func, ast.Name)]
            taken = {id(arg) for node in calls if node.func.id in ("len", "sorted") for arg in node.args}
            sets = [node for node in calls if node.func.id == "set"]
            sets += [node for node in ast.walk(tree) if isinstance(node, (ast.Set, ast.SetComp))]
            for node in sets:
                self.assertIn(id(node), taken, f"{path.name}:{node.lineno}")

    def test_l27_powers(self):
        for place, node in self.nodes(ast.BinOp):
            if isinstance(node.op, ast.Pow):
                self.assertIsInstance(node.right, ast.Constant, place)
                self.assertLessEqual(node.right.value, 64, place)

    def test_l8_builtins(self):
        for path, tree in self.trees.items():
            bound = {name for name, _ in bound_names(tree)}
            for node in ast.walk(tree):
                if isinstance(node, ast.Name) and node.id not in bound:
                    self.assertIn(node.id, BUILTINS, f"{path.name}:{node.lineno}")

    def test_l10_sizes(self):
        for path, text in self.texts.items():
            lines = text.split("\n")
            self.assertLessEqual(len(lines), 400, path.name)
            self.assertLessEqual(max(map(len, lines)), 120, path.name)
        for place, node in self.nodes(ast.FunctionDef):
            self.assertLessEqual(node.end_lineno - node.lineno + 1, 40, place)

    def test_l14_and_l27_characters(self):
        for path, text in self.texts.items():
            self.assertRegex(text, r"\A[\n -~]*\Z", path.name)
        for place, node in self.nodes(ast.Constant):
            if isinstance(node.value, str):
                self.assertNotIn(chr(37), node.value, place)

    def test_l15_and_l17_names(self):
        for path, tree in self.trees.items():
            top = {name.name for name in tree.body if isinstance(name, ast.ClassDef)}
            imports = [alias.name for node in tree.body if isinstance(node, ast.ImportFrom) for alias in node.names]
            for name, line in bound_names(tree):
                self.assertFalse(hasattr(builtins, name), f"{path.name}:{line}")
                self.assertNotIn(name, BARRED, f"{path.name}:{line}")
            bound = [name for name, _ in bound_names(tree)]
            for name in [*top, *imports]:
                self.assertEqual(bound.count(name), 1, f"{path.name}: {name}")

    def test_l16_no_two_files_import_from_each_other(self):
        wanted = {path.stem: {node.module.split(".")[-1] for node in tree.body if isinstance(node, ast.ImportFrom)}
                  for path, tree in self.trees.items()}
        ready = set(LIBRARY) | {"__future__"}
        while len(ready & set(wanted)) < len(wanted):
            more = {name for name in wanted if name not in ready and wanted[name] <= ready}
            self.assertTrue(more, sorted(set(wanted) - ready))
            ready |= more

    def test_l18_no_name_is_a_method_and_an_attribute(self):
        """In no two classes either: then it is plain what is called."""
        methods, attributes = set(), set()
        for _, node in self.nodes(ast.ClassDef):
            methods |= {row.name for row in node.body if isinstance(row, ast.FunctionDef)}
            attributes |= {at.attr for at in ast.walk(node) if isinstance(at, ast.Attribute)
                           and isinstance(at.ctx, ast.Store)}
        self.assertEqual(methods & attributes, set())

    def test_l21_no_annotations(self):
        for place, node in self.nodes(ast.FunctionDef):
            self.assertIsNone(node.returns, place)
        for place, node in self.nodes(ast.arg):
            self.assertIsNone(node.annotation, place)

    def test_l25_methods_of_builtin_values(self):
        for place, node in self.nodes(ast.Call):
            if isinstance(node.func, ast.Attribute) and node.func.attr in builtin_methods() - self.own:
                self.assertIn(node.func.attr, METHODS, place)

    def test_l12_names(self):
        for path, tree in self.trees.items():
            for name, line in bound_names(tree):
                self.assertTrue(name == "_" or re.match(r"_?[A-Za-z][A-Za-z0-9_]*\Z", name), f"{path.name}:{line}")


if __name__ == "__main__":
    unittest.main()
