"""The package's own files keep to the small part of the language, as far as a plain look tells."""

import ast
import builtins
import pathlib
import re
import unittest

ROOT = pathlib.Path(__file__).resolve().parent.parent / "facework"
FILES = sorted(path for path in ROOT.rglob("*") if path.is_file() and "__pycache__" not in path.parts)
TREES = {path.name: ast.parse(path.read_text(encoding="utf-8")) for path in FILES if path.suffix == ".py"}

# Python's own names that may stand in the package.
OWN = set(
    "len range enumerate zip min max sum abs sorted reversed int str bool list tuple dict set frozenset isinstance"
    " ord repr any all divmod Exception ValueError KeyError IndexError LookupError"
    " ZeroDivisionError ArithmeticError OverflowError RuntimeError NotImplementedError StopIteration".split()
)
BARRED_WORDS = set(
    "type typing typing_extensions enum Enum IntEnum StrEnum Flag IntFlag Generic Protocol ABC ABCMeta namedtuple"
    " NamedTuple TypedDict TYPE_CHECKING abstractmethod".split()
)
METHODS = set(
    "append clear copy count endswith extend find get index insert isalnum isalpha isdigit islower isspace isupper items"
    " join keys ljust lower lstrip partition pop remove replace reverse rfind rjust rpartition rsplit rstrip setdefault"
    " split splitlines startswith strip update upper values zfill bit_length".split()
)
# What these tell is walked where it stands.
WALKED = set("zip enumerate reversed range items keys values".split())
WALKERS = set("list tuple dict sorted sum any all enumerate zip min max".split())
BARRED_NODES = (
    ast.With, ast.Match, ast.Delete, ast.Global, ast.Nonlocal, ast.Assert, ast.Yield, ast.YieldFrom,
    ast.AsyncFunctionDef, ast.Await, ast.SetComp, ast.DictComp, ast.GeneratorExp, ast.NamedExpr, ast.Starred,
    ast.Div, ast.Import,
)


def nodes():
    for name, tree in TREES.items():
        for node in ast.walk(tree):
            yield name, node


def called(node):
    """The name of what a call calls, be it a name or a method."""
    if not isinstance(node, ast.Call):
        return None
    return node.func.id if isinstance(node.func, ast.Name) else getattr(node.func, "attr", None)


class Language(unittest.TestCase):

    def test_only_plain_files_lie_in_the_package(self):
        for path in FILES:
            self.assertRegex(path.name, r"^[a-z0-9_]+\.py$")
        self.assertIn("__init__.py", TREES)

    def test_imports_are_the_packages_own(self):
        for name, node in nodes():
            if isinstance(node, ast.ImportFrom):
                self.assertEqual(node.level, 0, name)
                self.assertTrue(node.module.startswith("facework."), name)
                self.assertIn(node.module.split(".")[-1] + ".py", TREES)
                self.assertNotIn("*", [alias.name for alias in node.names])

    def test_python_s_own_names(self):
        for name, node in nodes():
            if isinstance(node, ast.Name) and hasattr(builtins, node.id):
                self.assertIn(node.id, OWN, name)
                self.assertIsInstance(node.ctx, ast.Load, name)
            if isinstance(node, ast.arg):
                self.assertFalse(hasattr(builtins, node.arg), (name, node.arg))

    def test_what_the_language_leaves_out(self):
        for name, node in nodes():
            self.assertNotIsInstance(node, BARRED_NODES, name)
            if isinstance(node, ast.Constant):
                self.assertNotIsInstance(node.value, (float, complex, bytes), name)
            if isinstance(node, (ast.FunctionDef, ast.ClassDef)):
                self.assertEqual(node.decorator_list, [], name)
            if isinstance(node, ast.Assign):
                self.assertEqual(len(node.targets), 1, name)
            if isinstance(node, ast.Try):
                self.assertEqual(node.finalbody, [], name)
            if isinstance(node, (ast.For, ast.While)):
                self.assertEqual(node.orelse, [], name)

    def test_f_strings_hold_plain_names(self):
        for name, node in nodes():
            if isinstance(node, ast.FormattedValue):
                self.assertIsInstance(node.value, ast.Name, name)
                self.assertIsNone(node.format_spec, name)

    def test_is_stands_beside_none_true_and_false(self):
        for name, node in nodes():
            if isinstance(node, ast.Compare):
                for operator, right in zip(node.ops, node.comparators):
                    if isinstance(operator, (ast.Is, ast.IsNot)):
                        self.assertIsInstance(right, ast.Constant, (name, node.lineno))
                        self.assertIn(right.value, (None, True, False))

    def test_methods_are_known_ones(self):
        own = {node.name for name, node in nodes() if isinstance(node, ast.FunctionDef)}
        for name, node in nodes():
            if isinstance(node, ast.Call) and isinstance(node.func, ast.Attribute):
                self.assertIn(node.func.attr, METHODS | own, (name, node.lineno))

    def test_what_is_walked_on_the_spot(self):
        for name, tree in TREES.items():
            right = set()
            for node in ast.walk(tree):
                if isinstance(node, (ast.For, ast.comprehension)):
                    right.add(node.iter)
                if called(node) in WALKERS and node.args:
                    right.update(node.args)
            for node in ast.walk(tree):
                if called(node) in WALKED:
                    self.assertIn(node, right, (name, node.lineno))

    def test_no_method_is_a_value_too(self):
        methods = set()
        values = set()
        for name, node in nodes():
            if isinstance(node, ast.ClassDef):
                methods.update(inner.name for inner in node.body if isinstance(inner, ast.FunctionDef))
            if isinstance(node, ast.Attribute) and isinstance(node.ctx, ast.Store):
                values.add(node.attr)
        self.assertEqual(methods & values, set())
        for word in "items keys values pop update append clear extend insert remove reverse setdefault sort args".split():
            self.assertNotIn(word, values)

    def test_no_local_is_called_like_an_import_or_a_class(self):
        for name, tree in TREES.items():
            taken = {alias.name for node in tree.body if isinstance(node, ast.ImportFrom) for alias in node.names}
            taken |= {node.name for node in tree.body if isinstance(node, ast.ClassDef)}
            for node in ast.walk(tree):
                if isinstance(node, ast.arg):
                    self.assertNotIn(node.arg, taken, name)
                if isinstance(node, ast.Name) and isinstance(node.ctx, ast.Store):
                    self.assertNotIn(node.id, taken, name)

    def test_classes_are_called_or_raised_or_bases_alone(self):
        classes = {node.name for name, node in nodes() if isinstance(node, ast.ClassDef)}
        for name, tree in TREES.items():
            right = set()
            for node in ast.walk(tree):
                if isinstance(node, ast.Call):
                    right.add(node.func)
                    right.update(node.args if called(node) == "isinstance" else ())
                if isinstance(node, ast.ExceptHandler):
                    right.update(node.type.elts if isinstance(node.type, ast.Tuple) else [node.type])
                if isinstance(node, ast.ClassDef):
                    right.update(node.bases)
            for node in ast.walk(tree):
                if isinstance(node, ast.Name) and node.id in classes:
                    self.assertIn(node, right, (name, node.lineno))

    def test_no_two_files_draw_from_one_another(self):
        drawn = {
            name: {node.module.split(".")[-1] + ".py" for node in tree.body if isinstance(node, ast.ImportFrom)}
            for name, tree in TREES.items()
        }
        for name in drawn:
            reached = set()
            waiting = list(drawn[name])
            while waiting:
                one = waiting.pop()
                if one not in reached:
                    reached.add(one)
                    waiting.extend(drawn[one])
            self.assertNotIn(name, reached)

    def test_imports_are_from_the_file_that_defines_the_name(self):
        for name, tree in TREES.items():
            for node in tree.body:
                if isinstance(node, ast.ImportFrom):
                    source = TREES[node.module.split(".")[-1] + ".py"]
                    own = {one.name for one in source.body if isinstance(one, (ast.FunctionDef, ast.ClassDef))}
                    own |= {one.targets[0].id for one in source.body if isinstance(one, ast.Assign)}
                    for alias in node.names:
                        self.assertIn(alias.name, own, name)

    def test_sizes(self):
        for path in FILES:
            lines = path.read_text(encoding="utf-8").split("\n")
            self.assertLessEqual(len(lines), 400, path)
            for line in lines:
                self.assertLessEqual(len(line), 120, (path, line))
        for name, node in nodes():
            if isinstance(node, ast.FunctionDef):
                self.assertLessEqual(node.end_lineno - node.lineno + 1, 40, (name, node.name))

    def test_signs_and_words(self):
        for path in FILES:
            text = path.read_text(encoding="utf-8")
            self.assertTrue(all(sign == "\n" or " " <= sign <= "~" for sign in text), path)
            self.assertEqual(set(re.findall(r"\w+", text)) & BARRED_WORDS, set(), path)
            for part in ("dataclass", "overload", "contextmanager"):
                self.assertNotIn(part, text, path)

    def test_a_name_is_bound_once_at_a_file_s_top(self):
        for name, tree in TREES.items():
            bound = []
            for node in tree.body:
                if isinstance(node, (ast.FunctionDef, ast.ClassDef)):
                    bound.append(node.name)
                elif isinstance(node, ast.Assign):
                    bound.extend(target.id for target in node.targets)
                elif isinstance(node, ast.ImportFrom):
                    bound.extend(alias.asname or alias.name for alias in node.names)
            self.assertEqual(len(bound), len(set(bound)), name)
            self.assertFalse([one for one in bound if one.startswith("_")], name)


if __name__ == "__main__":
    unittest.main()
