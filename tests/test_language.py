"""The package's own files keep to the small part of the language, as far as a plain look tells."""

import ast
import builtins
import pathlib
import re
import unittest

ROOT = pathlib.Path(__file__).resolve().parent.parent / "facework"
FILES = sorted(path for path in ROOT.rglob("*") if path.is_file() and "__pycache__" not in path.parts)
TREES = {path.name: ast.parse(path.read_text(encoding="utf-8")) for path in FILES if path.suffix == ".py"}

# Python's own names that may stand in the package.
OWN = set(
    "len range enumerate zip min max sum abs sorted reversed int str bool list tuple dict set frozenset isinstance"
    " ord repr any all divmod Exception ValueError KeyError IndexError LookupError"
    " ZeroDivisionError ArithmeticError OverflowError RuntimeError NotImplementedError StopIteration".split()
)
BARRED_WORDS = set(
    "type typing typing_extensions enum Enum IntEnum StrEnum Flag IntFlag Generic Protocol ABC ABCMeta namedtuple"
    " NamedTuple TypedDict TYPE_CHECKING abstractmethod".split()
)
BARRED_NODES = (
    ast.With, ast.Match, ast.Delete, ast.Global, ast.Nonlocal, ast.Assert, ast.Yield, ast.YieldFrom,
    ast.AsyncFunctionDef, ast.Await, ast.SetComp, ast.DictComp, ast.GeneratorExp, ast.NamedExpr, ast.Starred,
    ast.Div, ast.Import,
)


def nodes():
    for name, tree in TREES.items():
        for node in ast.walk(tree):
            yield name, node


class Language(unittest.TestCase):

    def test_only_plain_files_lie_in_the_package(self):
        for path in FILES:
            self.assertRegex(path.name, r"^[a-z0-9_]+\.py$")
        self.assertIn("__init__.py", TREES)

    def test_imports_are_the_packages_own(self):
        for name, node in nodes():
            if isinstance(node, ast.ImportFrom):
                self.assertEqual(node.level, 0, name)
                self.assertTrue(node.module.startswith("facework."), name)
                self.assertIn(node.module.split(".")[-1] + ".py", TREES)
                self.assertNotIn("*", [alias.name for alias in node.names])

    def test_python_s_own_names(self):
        for name, node in nodes():
            if isinstance(node, ast.Name) and hasattr(builtins, node.id):
                self.assertIn(node.id, OWN, name)
                self.assertIsInstance(node.ctx, ast.Load, name)
            if isinstance(node, ast.arg):
                self.assertFalse(hasattr(builtins, node.arg), (name, node.arg))

    def test_what_the_language_leaves_out(self):
        for name, node in nodes():
            self.assertNotIsInstance(node, BARRED_NODES, name)
            if isinstance(node, ast.Constant):
                self.assertNotIsInstance(node.value, (float, complex, bytes), name)
            if isinstance(node, (ast.FunctionDef, ast.ClassDef)):
                self.assertEqual(node.decorator_list, [], name)
            if isinstance(node, ast.Assign):
                self.assertEqual(len(node.targets), 1, name)
            if isinstance(node, ast.Try):
                self.assertEqual(node.finalbody, [], name)
            if isinstance(node, (ast.For, ast.While)):
                self.assertEqual(node.orelse, [], name)

    def test_sizes(self):
        for path in FILES:
            lines = path.read_text(encoding="utf-8").split("\n")
            self.assertLessEqual(len(lines), 400, path)
            for line in lines:
                self.assertLessEqual(len(line), 120, (path, line))
        for name, node in nodes():
            if isinstance(node, ast.FunctionDef):
                self.assertLessEqual(node.end_lineno - node.lineno + 1, 40, (name, node.name))

    def test_signs_and_words(self):
        for path in FILES:
            text = path.read_text(encoding="utf-8")
            self.assertTrue(all(sign == "\n" or " " <= sign <= "~" for sign in text), path)
            self.assertEqual(set(re.findall(r"\w+", text)) & BARRED_WORDS, set(), path)
            for part in ("dataclass", "overload", "contextmanager"):
                self.assertNotIn(part, text, path)

    def test_a_name_is_bound_once_at_a_file_s_top(self):
        for name, tree in TREES.items():
            bound = []
            for node in tree.body:
                if isinstance(node, (ast.FunctionDef, ast.ClassDef)):
                    bound.append(node.name)
                elif isinstance(node, ast.Assign):
                    bound.extend(target.id for target in node.targets)
                elif isinstance(node, ast.ImportFrom):
                    bound.extend(alias.asname or alias.name for alias in node.names)
            self.assertEqual(len(bound), len(set(bound)), name)
            self.assertFalse([one for one in bound if one.startswith("_")], name)


if __name__ == "__main__":
    unittest.main()
