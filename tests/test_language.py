"""The package's files keep to the small part of Python that the program is written in."""

import ast
import builtins
import pathlib
import re
import unittest

PACKAGE = pathlib.Path(__file__).resolve().parent.parent / "viaboard"
ALLOWED_BUILTINS = set(
    "len range enumerate zip min max sum abs sorted reversed int str bool list tuple dict set frozenset isinstance ord "
    "repr any all divmod Exception ValueError TypeError KeyError IndexError LookupError ZeroDivisionError "
    "ArithmeticError OverflowError RuntimeError NotImplementedError AttributeError StopIteration".split())
ALLOWED_METHODS = set(
    "append clear copy count endswith extend find get index insert isalnum isalpha isdigit islower isspace isupper "
    "items join keys ljust lower lstrip partition pop remove replace reverse rfind rjust rpartition rsplit rstrip "
    "setdefault split splitlines startswith strip update upper values zfill bit_length".split())
BANNED_WORDS = ("type|typing|typing_extensions|enum|Enum|IntEnum|StrEnum|Flag|IntFlag|Generic|Protocol|ABC|ABCMeta|"
                "namedtuple|NamedTuple|TypedDict|TYPE_CHECKING|abstractmethod|register|mro|elements|open|input")
BANNED_NODES = tuple(getattr(ast, name) for name in (
    "With Match Delete Global Nonlocal Assert Yield YieldFrom AsyncFunctionDef Await NamedExpr Starred GeneratorExp "
    "SetComp DictComp Div MatMult AnnAssign Import Set").split())
OWN_VALUES = (str, int, list, dict, tuple, set, bytes)


def files():
    return sorted(PACKAGE.rglob("*.py"))


def trees():
    return [(path, ast.parse(path.read_text(encoding="utf-8"))) for path in files()]


def walk():
    return [(path.name, node) for path, tree in trees() for node in ast.walk(tree)]


class Language(unittest.TestCase):
    def test_files(self):
        self.assertIn("__init__.py", [path.name for path in files()])
        for path in PACKAGE.rglob("*"):
            if "__pycache__" not in path.parts:
                self.assertRegex(path.name, r"^(__init__|[a-z][a-z0-9_]*)\.py$")

    def test_sizes_and_signs(self):
        for path in files():
            text = path.read_text(encoding="utf-8")
            self.assertTrue(text.endswith("\n"), path)
            self.assertLessEqual(len(text.split("\n")), 401, path)
            for line in text.split("\n"):
                self.assertLessEqual(len(line), 120, (path, line))
                self.assertRegex(line, r"^[ -~]*$")
            self.assertIsNone(re.search(rf"\b({BANNED_WORDS})\b", text), path)
            self.assertIsNone(re.search("dataclass|overload|contextmanager", text), path)

    def test_functions(self):
        for name, node in walk():
            if isinstance(node, (ast.FunctionDef, ast.ClassDef)):
                self.assertEqual(node.decorator_list, [], name)
            if isinstance(node, ast.FunctionDef):
                self.assertLessEqual(node.end_lineno - node.lineno + 1, 40, (name, node.name))
                self.assertIsNone(node.args.vararg or node.args.kwarg or node.returns)
                self.assertEqual(node.args.kwonlyargs + node.args.posonlyargs, [])

    def test_statements_and_expressions(self):
        for name, node in walk():
            self.assertNotIsInstance(node, BANNED_NODES, (name, getattr(node, "lineno", 0)))
            if isinstance(node, ast.Constant):
                self.assertNotIsInstance(node.value, (float, bytes, complex))
            if isinstance(node, (ast.For, ast.While)):
                self.assertEqual(node.orelse, [])
            if isinstance(node, ast.Assign):
                self.assertEqual(len(node.targets), 1)
                self.assertIsInstance(node.targets[0], (ast.Name, ast.Attribute, ast.Subscript))
            if isinstance(node, ast.ListComp):
                self.assertEqual(len(node.generators), 1)
                self.assertLessEqual(len(node.generators[0].ifs), 1)

    def test_what_is_walked_at_once(self):
        walked = ("zip", "enumerate", "reversed", "range")
        takers = "list tuple dict sorted sum any all enumerate zip min max".split()
        for name, tree in trees():
            spots = []
            for node in ast.walk(tree):
                if isinstance(node, (ast.For, ast.comprehension)):
                    spots.append(node.iter)
                if isinstance(node, ast.Call) and getattr(node.func, "id", "") in takers:
                    spots += node.args[:1]
            for node in ast.walk(tree):
                if isinstance(node, ast.Call):
                    kept = getattr(node.func, "id", "") in walked or (
                        getattr(node.func, "attr", "") in ("items", "keys", "values"))
                    self.assertTrue(not kept or any(node is spot for spot in spots), (name, node.lineno))

    def test_is_stands_beside_none_alone(self):
        for name, node in walk():
            if isinstance(node, ast.Compare) and any(isinstance(op, (ast.Is, ast.IsNot)) for op in node.ops):
                self.assertIsInstance(node.comparators[0], ast.Constant, name)

    def test_imports(self):
        drawn = {path.stem: [] for path in files()}
        for path, tree in trees():
            for node in ast.walk(tree):
                if isinstance(node, ast.ImportFrom):
                    self.assertEqual(node.level, 0)
                    self.assertRegex(node.module, r"^viaboard\.[a-z]+$")
                    self.assertIn(node, tree.body)
                    drawn[path.stem].append(node.module.split(".")[1])
        while drawn:
            loose = [stem for stem in drawn if not any(other in drawn for other in drawn[stem])]
            self.assertNotEqual(loose, [], "files draw from one another")
            for stem in loose:
                drawn.pop(stem)

    def test_the_top_of_a_file(self):
        for path, tree in trees():
            self.assertIsNotNone(ast.get_docstring(tree), path)
            for node in tree.body[1:]:
                self.assertIsInstance(node, (ast.ImportFrom, ast.FunctionDef, ast.ClassDef, ast.Assign), path)

    def test_names(self):
        for name, node in walk():
            if isinstance(node, ast.Name):
                self.assertRegex(node.id, r"^[A-Za-z][A-Za-z0-9_]*$")
                if hasattr(builtins, node.id):
                    self.assertIn(node.id, ALLOWED_BUILTINS, name)
                    self.assertIsInstance(node.ctx, ast.Load, (name, node.id))
            if isinstance(node, ast.arg):
                self.assertFalse(hasattr(builtins, node.arg), (name, node.arg))
                self.assertFalse(node.arg.startswith("_") or node.annotation)

    def test_methods_and_values(self):
        methods = {}
        values = {}
        called = {}
        for name, node in walk():
            if isinstance(node, ast.ClassDef):
                for item in node.body[1:]:
                    self.assertIsInstance(item, ast.FunctionDef)
                    methods[item.name] = True
            if isinstance(node, ast.Attribute) and isinstance(node.ctx, ast.Store):
                values[node.attr] = True
            if isinstance(node, ast.Call) and isinstance(node.func, ast.Attribute):
                called[node.func.attr] = True
        self.assertEqual(set(methods) & set(values), set())
        self.assertEqual(set(called) - set(methods) - ALLOWED_METHODS, set())
        for attr in list(values) + [attr for attr in methods if attr != "__init__"]:
            self.assertFalse(any(hasattr(kind, attr) for kind in OWN_VALUES), attr)


if __name__ == "__main__":
    unittest.main()
