"""The package keeps to its small part of Python, as far as a reading of the files shows it."""

import ast
import builtins
import pathlib
import re
import unittest
import warnings

PACKAGE = pathlib.Path(__file__).resolve().parent.parent / "wornband"
FILES = sorted(path for path in PACKAGE.rglob("*") if path.is_file() and "__pycache__" not in path.parts)

WORDS = re.compile(
    r"\b(type|typing|typing_extensions|enum|Enum|IntEnum|StrEnum|Flag|IntFlag|Generic|Protocol|ABC|ABCMeta|namedtuple"
    r"|NamedTuple|TypedDict|TYPE_CHECKING|abstractmethod)\b|dataclass|overload|contextmanager"
)
OWN_NAMES = set(
    "len range enumerate zip min max sum abs sorted reversed int str bool bytes list tuple dict set frozenset isinstance "
    "ord repr any all divmod Exception ValueError TypeError KeyError IndexError LookupError ZeroDivisionError "
    "ArithmeticError OverflowError RuntimeError NotImplementedError AttributeError StopIteration".split()
)
NOT_USED = (
    ast.With, ast.Match, ast.Global, ast.Nonlocal, ast.Yield, ast.YieldFrom, ast.Await, ast.AsyncFunctionDef,
    ast.AsyncFor, ast.AsyncWith, ast.GeneratorExp, ast.NamedExpr, ast.Div, ast.Import,
)


def nodes():
    return [(path.name, node) for path in FILES for node in ast.walk(ast.parse(path.read_text()))]


class Language(unittest.TestCase):
    def test_only_python_files_with_plain_names(self):
        self.assertIn(PACKAGE / "__init__.py", FILES)
        for path in FILES:
            self.assertRegex(path.name, r"^[a-z0-9_]+\.py$")

    def test_sizes(self):
        for path in FILES:
            rows = path.read_text().split("\n")
            self.assertLessEqual(len(rows), 400, path.name)
            self.assertLessEqual(max(map(len, rows)), 120, path.name)
        for name, node in nodes():
            if isinstance(node, ast.FunctionDef):
                self.assertLessEqual(node.end_lineno - node.lineno + 1, 40, (name, node.name))

    def test_signs_and_words(self):
        for path in FILES:
            text = path.read_bytes().decode("ascii")
            self.assertRegex(text, r"\A[ -~\n]*\Z", path.name)
            self.assertIsNone(WORDS.search(text), path.name)
        for name, node in nodes():
            if isinstance(node, ast.Constant) and isinstance(node.value, str):
                self.assertNotIn("%", node.value, name)

    def test_no_warning(self):
        for path in FILES:
            with self.subTest(file=path.name), warnings.catch_warnings():
                warnings.simplefilter("error")
                compile(path.read_text(), path.name, "exec")

    def test_imports_are_the_package_s_own(self):
        for name, node in nodes():
            if isinstance(node, ast.ImportFrom):
                self.assertEqual(node.level, 0, name)
                self.assertRegex(node.module, r"^(wornband\.[a-z0-9_.]+|__future__)$", name)
                self.assertNotIn("*", [drawn.name for drawn in node.names], name)

    def test_statements_and_expressions(self):
        for name, node in nodes():
            at = (name, getattr(node, "lineno", None))
            self.assertNotIsInstance(node, NOT_USED, at)
            self.assertFalse(getattr(node, "decorator_list", []), at)
            if isinstance(node, ast.Constant):
                self.assertNotIsInstance(node.value, (float, complex), at)
            if isinstance(node, (ast.For, ast.While)):
                self.assertEqual(node.orelse, [], at)

    def test_python_s_own_names(self):
        for name, node in nodes():
            if isinstance(node, ast.Name) and hasattr(builtins, node.id):
                self.assertIn(node.id, OWN_NAMES, name)
                self.assertIsInstance(node.ctx, ast.Load, (name, node.id))
            if isinstance(node, ast.arg):
                self.assertFalse(hasattr(builtins, node.arg), (name, node.arg))


if __name__ == "__main__":
    unittest.main()
