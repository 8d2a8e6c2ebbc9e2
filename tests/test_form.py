"""What of the form of the package's files a walk over their syntax can see."""

import ast
import builtins
import re
import unittest
from pathlib import Path

TOP = Path(__file__).resolve().parent.parent
PACKAGE = TOP / "ballotin"
OWN_NAMES = set(
    "len range enumerate zip min max sum abs sorted reversed int str bool bytes list tuple dict set frozenset"
    " isinstance ord repr any all divmod Exception ValueError TypeError KeyError IndexError LookupError"
    " ZeroDivisionError ArithmeticError OverflowError RuntimeError NotImplementedError AttributeError"
    " StopIteration".split()
)
DUNDERS = {"__init__", "__eq__", "__repr__", "__str__", "__len__"}
WORDS_OUT = re.compile(
    r"\b(type|typing|typing_extensions|enum|Enum|IntEnum|StrEnum|Flag|IntFlag|Generic|Protocol|ABC|ABCMeta"
    r"|namedtuple|NamedTuple|TypedDict|TYPE_CHECKING|abstractmethod)\b|dataclass|overload|contextmanager"
)
NODES_OUT = (
    ast.With, ast.AsyncWith, ast.Match, ast.Global, ast.Nonlocal, ast.Yield, ast.YieldFrom, ast.Await,
    ast.AsyncFor, ast.AsyncFunctionDef, ast.GeneratorExp, ast.NamedExpr, ast.Div, ast.MatMult, ast.Import,
)
TOP_NODES = (ast.ImportFrom, ast.FunctionDef, ast.ClassDef, ast.Assign, ast.Expr)


def files():
    return sorted(PACKAGE.rglob("*.py"))


def trees():
    for path in files():
        yield path.name, ast.parse(path.read_text(encoding="utf-8"))


def nodes():
    for name, tree in trees():
        for node in ast.walk(tree):
            yield f"{name}:{getattr(node, 'lineno', 0)}", node


def bound_names(node):
    if isinstance(node, (ast.FunctionDef, ast.ClassDef)):
        return [node.name]
    if isinstance(node, ast.Name) and isinstance(node.ctx, ast.Store):
        return [node.id]
    if isinstance(node, ast.arg):
        return [node.arg]
    if isinstance(node, ast.Attribute):
        return [node.attr]
    return []


class Files(unittest.TestCase):
    def test_one_folder_of_plain_files(self):
        self.assertTrue((PACKAGE / "__init__.py").is_file())
        for path in PACKAGE.rglob("*"):
            if "__pycache__" not in path.parts:
                self.assertRegex(path.name, r"^[a-z0-9_]+\.py$")
                self.assertNotRegex(path.name, r"^test")

    def test_signs_and_sizes(self):
        for path in files():
            text = path.read_text(encoding="utf-8")
            self.assertRegex(text, r"\A[\n -~]*\Z", path.name)
            rows = text.splitlines()
            self.assertLessEqual(len(rows), 400, path.name)
            self.assertLessEqual(max(map(len, rows), default=0), 120, path.name)
            self.assertIsNone(WORDS_OUT.search(text), path.name)

    def test_functions_are_short(self):
        for at, node in nodes():
            if isinstance(node, ast.FunctionDef):
                self.assertLessEqual(node.end_lineno - node.lineno + 1, 40, at)


class Syntax(unittest.TestCase):
    def test_statements_and_expressions_that_stand_nowhere(self):
        for at, node in nodes():
            self.assertNotIsInstance(node, NODES_OUT, at)
            if isinstance(node, (ast.For, ast.While)):
                self.assertEqual(node.orelse, [], at)
            if isinstance(node, (ast.FunctionDef, ast.ClassDef)):
                self.assertEqual(node.decorator_list, [], at)
            if isinstance(node, ast.arguments):
                self.assertEqual((node.vararg, node.kwarg, node.posonlyargs), (None, None, []), at)
            if isinstance(node, ast.FormattedValue):
                self.assertIsNone(node.format_spec, at)

    def test_written_values(self):
        for at, node in nodes():
            if isinstance(node, ast.Constant):
                self.assertNotIsInstance(node.value, (float, complex), at)
                if isinstance(node.value, str):
                    self.assertNotIn("%", node.value, at)

    def test_imports_are_of_the_package_alone(self):
        for at, node in nodes():
            if isinstance(node, ast.ImportFrom) and node.module != "__future__":
                self.assertEqual(node.level, 0, at)
                self.assertRegex(node.module, r"^ballotin\.[a-z]+$", at)
                self.assertNotIn("*", [alias.name for alias in node.names], at)

    def test_the_top_of_a_file(self):
        for name, tree in trees():
            for node in tree.body:
                self.assertIsInstance(node, TOP_NODES, name)
                if isinstance(node, ast.Expr):
                    self.assertIs(node, tree.body[0], name)

    def test_names(self):
        for at, node in nodes():
            for name in bound_names(node):
                if name not in DUNDERS:
                    self.assertRegex(name, r"^[A-Za-z][A-Za-z0-9_]*$", at)
            if isinstance(node, (ast.arg, ast.Name)):
                for name in bound_names(node):
                    self.assertFalse(hasattr(builtins, name), (at, name))

    def test_locals_are_not_called_like_imports_or_classes(self):
        for name, tree in trees():
            taken = {node.name for node in tree.body if isinstance(node, ast.ClassDef)}
            for node in tree.body:
                if isinstance(node, ast.ImportFrom):
                    taken |= {alias.name for alias in node.names}
            for node in ast.walk(tree):
                if isinstance(node, (ast.arg, ast.Name)):
                    self.assertTrue(taken.isdisjoint(bound_names(node)), (name, node.lineno))

    def test_no_name_is_a_method_and_a_value(self):
        methods, values = set(), set()
        for _, node in nodes():
            if isinstance(node, ast.ClassDef):
                methods |= {own.name for own in node.body if isinstance(own, ast.FunctionDef)}
            if isinstance(node, ast.Attribute) and isinstance(node.ctx, ast.Store):
                values.add(node.attr)
        self.assertEqual(methods & values, set())
        for name in values:
            for thing in ("", 0, [], {}, set(), b"", ()):
                self.assertFalse(hasattr(thing, name), name)

    def test_no_files_draw_from_one_another(self):
        drawn = {}
        for name, tree in trees():
            found = [node.module for node in tree.body if isinstance(node, ast.ImportFrom)]
            drawn[name] = {module.split(".")[1] + ".py" for module in found}
        while drawn:
            free = [name for name, others in drawn.items() if not others & set(drawn)]
            self.assertNotEqual(free, [], drawn)
            for name in free:
                del drawn[name]

    def test_names_of_pythons_own(self):
        for at, node in nodes():
            if isinstance(node, ast.Name) and hasattr(builtins, node.id):
                self.assertIn(node.id, OWN_NAMES, at)

    def test_is_stands_beside_none_true_and_false(self):
        for at, node in nodes():
            if isinstance(node, ast.Compare):
                for sign, right in zip(node.ops, node.comparators):
                    if isinstance(sign, (ast.Is, ast.IsNot)):
                        self.assertIsInstance(right, ast.Constant, at)


if __name__ == "__main__":
    unittest.main()
