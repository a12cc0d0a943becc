"""The rules of LANGUAGE.md that a look at the code's tree can tell."""

import ast
import pathlib
import re
import unittest

FOLDER = pathlib.Path(__file__).resolve().parent.parent / "coverclocks"
STATEMENTS = (
    ast.Assign, ast.AugAssign, ast.If, ast.While, ast.For, ast.Return, ast.Break, ast.Continue, ast.Pass, ast.Raise,
    ast.Try, ast.Expr, ast.FunctionDef, ast.ClassDef, ast.ImportFrom,
)
OUT = (
    ast.Div, ast.MatMult, ast.SetComp, ast.DictComp, ast.GeneratorExp, ast.NamedExpr, ast.Starred, ast.Await, ast.Yield,
    ast.YieldFrom, ast.Set, ast.AsyncFunctionDef,
)
OWN_NAMES = (
    "len range enumerate zip min max sum abs sorted reversed int str bool list tuple dict set frozenset isinstance ord "
    "repr any all divmod Exception ValueError TypeError KeyError IndexError LookupError ZeroDivisionError "
    "ArithmeticError OverflowError RuntimeError NotImplementedError AttributeError StopIteration"
).split()
METHODS = (
    "append clear copy count endswith extend find get index insert isalnum isalpha isdigit islower isspace isupper "
    "items join keys ljust lower lstrip partition pop remove replace reverse rfind rjust rpartition rsplit rstrip "
    "setdefault split splitlines startswith strip update upper values zfill bit_length"
).split()
WORDS = (
    "type typing typing_extensions enum Enum IntEnum StrEnum Flag IntFlag Generic Protocol ABC ABCMeta namedtuple "
    "NamedTuple TypedDict TYPE_CHECKING abstractmethod"
).split()
PYTHONS = dir(__builtins__) if not isinstance(__builtins__, dict) else list(__builtins__)


def bound_names(tree):
    names = []
    for node in ast.walk(tree):
        if isinstance(node, ast.Name) and isinstance(node.ctx, ast.Store):
            names.append(node.id)
        if isinstance(node, ast.arg):
            names.append(node.arg)
        if isinstance(node, (ast.FunctionDef, ast.ClassDef)) and node.name != "__init__":
            names.append(node.name)
    return names


def own_methods(tree):
    return [
        part.name for node in tree.body if isinstance(node, ast.ClassDef) for part in node.body
        if isinstance(part, ast.FunctionDef)
    ]


def imported_names(tree):
    return [alias.name for node in tree.body if isinstance(node, ast.ImportFrom) for alias in node.names]


class Language(unittest.TestCase):
    def files(self):
        found = sorted(path for path in FOLDER.iterdir() if path.name != "__pycache__")
        self.assertTrue(found)
        for path in found:
            self.assertRegex(path.name, r"^[a-z_]+\.py$")
            text = path.read_text(encoding="utf-8")
            yield path.name, text, ast.parse(text)

    def test_signs_and_sizes(self):
        for name, text, tree in self.files():
            rows = text.split("\n")
            self.assertLessEqual(len(rows), 400, name)
            self.assertLessEqual(max(len(row) for row in rows), 120, name)
            self.assertEqual([sign for sign in text if sign != "\n" and not " " <= sign <= "~"], [], name)
            for node in ast.walk(tree):
                if isinstance(node, ast.FunctionDef):
                    self.assertLessEqual(node.end_lineno - node.lineno + 1, 40, node.name)

    def test_words(self):
        for name, text, tree in self.files():
            found = re.findall(r"\w+", text)
            self.assertEqual([word for word in found if word in WORDS], [], name)
            self.assertNotRegex(text, "dataclass|overload|contextmanager")

    def test_statements(self):
        for name, text, tree in self.files():
            self.assertTrue(ast.get_docstring(tree), name)
            for node in ast.walk(tree):
                where = f"{name}:{getattr(node, 'lineno', 0)}"
                if isinstance(node, ast.stmt):
                    self.assertIsInstance(node, STATEMENTS, where)
                if isinstance(node, ast.Expr) and node is not tree.body[0]:
                    self.assertIsInstance(node.value, ast.Call, where)
                if isinstance(node, ast.Assign):
                    self.assertEqual([isinstance(target, ast.Tuple) for target in node.targets], [False], where)
                if isinstance(node, (ast.For, ast.While)):
                    self.assertEqual(node.orelse, [], where)
                if isinstance(node, ast.Try):
                    self.assertEqual(node.finalbody, [], where)
                if isinstance(node, (ast.FunctionDef, ast.ClassDef)):
                    self.assertEqual(node.decorator_list, [], where)

    def test_tops(self):
        for name, text, tree in self.files():
            names = list(imported_names(tree))
            for node in tree.body[1:]:
                where = f"{name}:{node.lineno}"
                self.assertIsInstance(node, (ast.ImportFrom, ast.FunctionDef, ast.ClassDef, ast.Assign), where)
                if isinstance(node, ast.Assign):
                    self.plain_value(node.value, names, where)
                    names.append(node.targets[0].id)
                elif not isinstance(node, ast.ImportFrom):
                    names.append(node.name)
            self.assertEqual(len(names), len(set(names)), name)

    def plain_value(self, value, names, where):
        """A whole number, a text, or a tuple, list or dict of such and of functions from above; no list within one."""
        for node in ast.walk(value):
            if isinstance(node, ast.Name):
                self.assertIn(node.id, names, where)
            elif not isinstance(node, ast.Load):
                self.assertIsInstance(node, (ast.Constant, ast.Tuple, ast.List, ast.Dict), where)
                self.assertTrue(node is value or not isinstance(node, (ast.List, ast.Dict)), where)

    def test_expressions(self):
        own = [method for name, text, tree in self.files() for method in own_methods(tree)]
        for name, text, tree in self.files():
            for node in ast.walk(tree):
                where = f"{name}:{getattr(node, 'lineno', 0)}"
                self.assertNotIsInstance(node, OUT, where)
                if isinstance(node, ast.Constant):
                    self.assertIn(node.value.__class__, (int, str, bool, None.__class__), where)
                    self.assertNotIn("%", str(node.value), where)
                if isinstance(node, ast.ListComp):
                    self.assertEqual(len(node.generators), 1, where)
                    self.assertLessEqual(len(node.generators[0].ifs), 1, where)
                if isinstance(node, ast.Compare):
                    for sign, other in zip(node.ops, node.comparators):
                        if isinstance(sign, (ast.Is, ast.IsNot)):
                            self.assertIn(getattr(other, "value", 0), (None, True, False), where)
                if isinstance(node, ast.Call) and isinstance(node.func, ast.Attribute):
                    self.assertIn(node.func.attr, METHODS + own, where)
                if isinstance(node, ast.Call) and isinstance(node.func, ast.Name) and node.func.id == "set":
                    made = ast.unparse(node)
                    self.assertTrue(f"len({made})" in text or f"sorted({made})" in text, where)

    def test_imports(self):
        for name, text, tree in self.files():
            for node in ast.walk(tree):
                if isinstance(node, ast.ImportFrom):
                    self.assertIn(node, tree.body)
                    self.assertEqual(node.level, 0)
                    self.assertRegex(node.module, r"^coverclocks\.[a-z]+$")
                    for alias in node.names:
                        self.assertIsNone(alias.asname)
            used = [node.id for node in ast.walk(tree) if isinstance(node, ast.Name)]
            self.assertEqual([word for word in imported_names(tree) if word not in used], [], name)

    def test_names(self):
        for name, text, tree in self.files():
            bound = bound_names(tree)
            drawn = imported_names(tree)
            for word in bound + drawn:
                self.assertRegex(word, r"^[A-Za-z][A-Za-z0-9_]*$")
                self.assertNotIn(word, PYTHONS, name)
            self.assertEqual([word for word in bound if word in drawn], [], name)
            for node in ast.walk(tree):
                if isinstance(node, ast.Name) and isinstance(node.ctx, ast.Load):
                    self.assertIn(node.id, bound + drawn + OWN_NAMES, f"{name}:{node.lineno}")


if __name__ == "__main__":
    unittest.main()
