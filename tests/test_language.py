"""The package's own files keep to the small part of Python that they are written in."""

import ast
import builtins
import pathlib
import re
import unittest

PACKAGE = pathlib.Path(__file__).resolve().parent.parent / "hurdlefolds"

ALLOWED_NAMES = """len range enumerate zip min max sum abs sorted reversed int str bool list tuple dict set frozenset
    isinstance ord repr any all divmod Exception ValueError TypeError KeyError IndexError LookupError ZeroDivisionError
    ArithmeticError OverflowError RuntimeError NotImplementedError AttributeError StopIteration""".split()
ALLOWED_METHODS = """append clear copy count endswith extend find get index insert isalnum isalpha isdigit islower isspace
    isupper items join keys ljust lower lstrip partition pop remove replace reverse rfind rjust rpartition rsplit rstrip
    setdefault split splitlines startswith strip update upper values zfill bit_length __init__""".split()
OUTLAWED_WORDS = re.compile(r"\b(type|typing|typing_extensions|enum|Enum|IntEnum|StrEnum|Flag|IntFlag|Generic|Protocol|ABC"
                            r"|ABCMeta|namedtuple|NamedTuple|TypedDict|TYPE_CHECKING|abstractmethod|register|mro|elements"
                            r"|open|input|version_info|with_traceback|add_note)\b|dataclass|overload|contextmanager")
OUTLAWED_NODES = (ast.With, ast.Match, ast.Delete, ast.Global, ast.Nonlocal, ast.Assert, ast.Yield, ast.YieldFrom,
                  ast.AsyncFunctionDef, ast.Await, ast.SetComp, ast.DictComp, ast.GeneratorExp, ast.NamedExpr, ast.Starred,
                  ast.Div, ast.Import, ast.AnnAssign)


def sources():
    return [(path, path.read_text("utf-8")) for path in sorted(PACKAGE.rglob("*.py"))]


def nodes():
    return [(path.name, node) for path, source in sources() for node in ast.walk(ast.parse(source))]


def own_methods():
    return {node.name for name, node in nodes() if isinstance(node, ast.FunctionDef)}


class Files(unittest.TestCase):
    def test_only_plain_files_lie_in_the_package(self):
        names = [path.name for path in PACKAGE.iterdir() if path.name != "__pycache__"]
        self.assertIn("__init__.py", names)
        for name in names:
            self.assertRegex(name, r"\A[a-z0-9_]+\.py\Z")

    def test_sizes_and_signs(self):
        for path, source in sources():
            self.assertTrue(all(sign == "\n" or " " <= sign <= "~" for sign in source), path)
            self.assertLessEqual(len(source.splitlines()), 399, path)
            self.assertLessEqual(max(len(line) for line in source.splitlines()), 120, path)
            self.assertIsNone(OUTLAWED_WORDS.search(source), path)

    def test_imports_go_to_own_files_and_in_no_circle(self):
        drawn = {path.stem: [] for path, source in sources()}
        for name, node in nodes():
            if isinstance(node, ast.ImportFrom):
                self.assertEqual(node.level, 0)
                self.assertRegex(node.module, r"\Ahurdlefolds\.[a-z]+\Z")
                drawn[name[:-3]].append(node.module.split(".")[1])
        while drawn:
            free = [name for name in drawn if not any(other in drawn for other in drawn[name])]
            self.assertTrue(free, "files draw from one another")
            for name in free:
                del drawn[name]


class Code(unittest.TestCase):
    def test_no_outlawed_statement_or_expression(self):
        for name, node in nodes():
            where = f"{name}:{getattr(node, 'lineno', 0)}"
            self.assertNotIsInstance(node, OUTLAWED_NODES, where)
            if isinstance(node, (ast.For, ast.While)):
                self.assertEqual(node.orelse, [], where)
            if isinstance(node, ast.Try):
                self.assertEqual(node.finalbody, [], where)
            if isinstance(node, ast.Assign):
                self.assertEqual(len(node.targets), 1, where)
                self.assertNotIsInstance(node.targets[0], (ast.Tuple, ast.List), where)
            if isinstance(node, ast.Constant):
                self.assertNotIsInstance(node.value, (float, bytes, complex), where)

    def test_functions_are_short_and_plain(self):
        for name, node in nodes():
            if isinstance(node, ast.FunctionDef):
                self.assertLessEqual(node.end_lineno - node.lineno + 1, 40, node.name)
                self.assertEqual(node.decorator_list, [], node.name)
                given = node.args
                self.assertEqual((given.vararg, given.kwarg, given.kwonlyargs, given.posonlyargs), (None, None, [], []))
                for one in given.args:
                    self.assertFalse(hasattr(builtins, one.arg), f"{name}: {one.arg}")

    def test_names_of_python_are_the_allowed_ones(self):
        for name, node in nodes():
            if isinstance(node, ast.Name):
                self.assertFalse(node.id.startswith("_"), node.id)
                if hasattr(builtins, node.id):
                    self.assertIn(node.id, ALLOWED_NAMES, name)
                    self.assertIsInstance(node.ctx, ast.Load, f"{name}: {node.id}")

    def test_methods_are_the_allowed_ones(self):
        allowed = set(ALLOWED_METHODS) | own_methods()
        for name, node in nodes():
            if isinstance(node, ast.Call) and isinstance(node.func, ast.Attribute):
                self.assertIn(node.func.attr, allowed, f"{name}:{node.lineno}")

    def test_no_local_is_called_like_an_import_or_a_class_of_its_file(self):
        for path, source in sources():
            tree = ast.parse(source)
            taken = {node.name for node in tree.body if isinstance(node, ast.ClassDef)}
            for node in tree.body:
                if isinstance(node, ast.ImportFrom):
                    taken |= {one.name for one in node.names}
            for node in ast.walk(tree):
                if isinstance(node, ast.arg):
                    self.assertNotIn(node.arg, taken, path)
                if isinstance(node, ast.Name) and isinstance(node.ctx, ast.Store):
                    self.assertNotIn(node.id, taken, path)
                if isinstance(node, ast.ExceptHandler):
                    self.assertNotIn(node.name, taken, path)

    def test_no_name_is_a_method_and_a_value(self):
        methods = {one.name for name, node in nodes() if isinstance(node, ast.ClassDef)
                   for one in node.body if isinstance(one, ast.FunctionDef)}
        values = {node.attr for name, node in nodes()
                  if isinstance(node, ast.Attribute) and isinstance(node.ctx, ast.Store)}
        self.assertEqual(methods & values, set())
        owned = {word for kind in (str, int, list, dict, set, bytes) for word in dir(kind)}
        self.assertEqual((methods | values) & owned - {"__init__"}, set())

    def test_powers_comparisons_and_sets(self):
        for name, node in nodes():
            where = f"{name}:{getattr(node, 'lineno', 0)}"
            self.assertNotIsInstance(node, (ast.Pow, ast.Set), where)
            if isinstance(node, ast.Compare) and any(isinstance(sign, (ast.Is, ast.IsNot)) for sign in node.ops):
                self.assertIsInstance(node.comparators[0], ast.Constant, where)
            if isinstance(node, ast.ListComp):
                self.assertEqual(len(node.generators), 1, where)
                self.assertLessEqual(len(node.generators[0].ifs), 1, where)

    def test_a_files_top_binds_plain_values_once(self):
        for path, source in sources():
            bound = []
            for node in ast.parse(source).body:
                self.assertIsInstance(node, (ast.Expr, ast.ImportFrom, ast.FunctionDef, ast.ClassDef, ast.Assign), path)
                if isinstance(node, ast.ImportFrom):
                    bound += [one.name for one in node.names]
                elif isinstance(node, ast.Assign):
                    bound.append(node.targets[0].id)
                    self.assertIsInstance(node.value, (ast.Constant, ast.Tuple, ast.List, ast.Dict), path)
                elif not isinstance(node, ast.Expr):
                    bound.append(node.name)
            self.assertEqual(sorted(set(bound)), sorted(bound), path)

    def test_the_interface(self):
        found = [(name, node) for name, node in nodes() if isinstance(node, ast.FunctionDef) and node.name == "answers"]
        self.assertEqual([name for name, node in found], ["fields.py"])
        self.assertEqual([one.arg for one in found[0][1].args.args], ["calls"])
        self.assertEqual(found[0][1].args.defaults, [])


if __name__ == "__main__":
    unittest.main()
