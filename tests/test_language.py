"""The package keeps to its small part of Python, as far as a reading of the files shows it."""

import ast
import builtins
import pathlib
import re
import unittest
import warnings

PACKAGE = pathlib.Path(__file__).resolve().parent.parent / "wornband"
FILES = sorted(path for path in PACKAGE.rglob("*") if path.is_file() and "__pycache__" not in path.parts)

WORDS = re.compile(
    r"\b(type|typing|typing_extensions|enum|Enum|IntEnum|StrEnum|Flag|IntFlag|Generic|Protocol|ABC|ABCMeta|namedtuple"
    r"|NamedTuple|TypedDict|TYPE_CHECKING|abstractmethod)\b|dataclass|overload|contextmanager"
)
OWN_NAMES = set(
    "len range enumerate zip min max sum abs sorted reversed int str bool bytes list tuple dict set frozenset isinstance "
    "ord repr any all divmod Exception ValueError TypeError KeyError IndexError LookupError ZeroDivisionError "
    "ArithmeticError OverflowError RuntimeError NotImplementedError AttributeError StopIteration".split()
)
METHODS = set(
    "append clear copy count endswith extend find get index insert isalnum isalpha isdigit islower isspace isupper items "
    "join keys ljust lower lstrip partition pop remove replace reverse rfind rjust rpartition rsplit rstrip setdefault "
    "split splitlines startswith strip update upper values zfill bit_length sort add discard".split()
)
AT_ONCE = ("zip", "enumerate", "reversed", "range")
WALKERS = ("list", "tuple", "dict", "sorted", "sum", "any", "all", "enumerate", "zip", "min", "max", "reversed", "len")
NOT_USED = (
    ast.With, ast.Match, ast.Global, ast.Nonlocal, ast.Yield, ast.YieldFrom, ast.Await, ast.AsyncFunctionDef,
    ast.AsyncFor, ast.AsyncWith, ast.GeneratorExp, ast.NamedExpr, ast.Div, ast.Import,
)


def trees():
    return [(path.name, ast.parse(path.read_text())) for path in FILES]


def nodes():
    return [(name, node) for name, tree in trees() for node in ast.walk(tree)]


def own_methods():
    return {row.name for name, node in nodes() if isinstance(node, ast.ClassDef)
            for row in node.body if isinstance(row, ast.FunctionDef)}


def own_values():
    return {node.attr for name, node in nodes() if isinstance(node, ast.Attribute) and isinstance(node.ctx, ast.Store)}


def names_given(tree):
    """Parameters, locals and all else that a file gives a name to, but imports, classes and top defs."""
    given = [node.arg for node in ast.walk(tree) if isinstance(node, ast.arg)]
    return given + [node.id for node in ast.walk(tree) if isinstance(node, ast.Name) and isinstance(node.ctx, ast.Store)]


def top_names(tree):
    drawn = [part.asname or part.name for row in tree.body if isinstance(row, ast.ImportFrom) for part in row.names]
    return drawn + [row.name for row in tree.body if isinstance(row, (ast.FunctionDef, ast.ClassDef))]


def walked_at_once(tree):
    """The calls that stand where they are walked on the spot."""
    walked = []
    for node in ast.walk(tree):
        if isinstance(node, (ast.For, ast.comprehension)):
            walked.append(node.iter)
        if isinstance(node, ast.Call) and isinstance(node.func, ast.Name) and node.func.id in WALKERS:
            walked.extend(node.args)
        if isinstance(node, ast.Call) and isinstance(node.func, ast.Attribute) and node.func.attr == "join":
            walked.extend(node.args)
        if isinstance(node, ast.Compare):
            walked.extend(node.comparators)
    return walked


class Language(unittest.TestCase):
    def test_only_python_files_with_plain_names(self):
        self.assertIn(PACKAGE / "__init__.py", FILES)
        for path in FILES:
            self.assertRegex(path.name, r"^[a-z0-9_]+\.py$")

    def test_sizes(self):
        for path in FILES:
            rows = path.read_text().split("\n")
            self.assertLessEqual(len(rows), 400, path.name)
            self.assertLessEqual(max(map(len, rows)), 120, path.name)
        for name, node in nodes():
            if isinstance(node, ast.FunctionDef):
                self.assertLessEqual(node.end_lineno - node.lineno + 1, 40, (name, node.name))

    def test_signs_and_words(self):
        for path in FILES:
            text = path.read_bytes().decode("ascii")
            self.assertRegex(text, r"\A[ -~\n]*\Z", path.name)
            self.assertIsNone(WORDS.search(text), path.name)
        for name, node in nodes():
            if isinstance(node, ast.Constant) and isinstance(node.value, str):
                self.assertNotIn("%", node.value, name)

    def test_no_warning(self):
        for path in FILES:
            with self.subTest(file=path.name), warnings.catch_warnings():
                warnings.simplefilter("error")
                compile(path.read_text(), path.name, "exec")

    def test_imports_are_the_package_s_own(self):
        for name, node in nodes():
            if isinstance(node, ast.ImportFrom):
                self.assertEqual(node.level, 0, name)
                self.assertRegex(node.module, r"^(wornband\.[a-z0-9_.]+|__future__)$", name)
                self.assertNotIn("*", [drawn.name for drawn in node.names], name)

    def test_statements_and_expressions(self):
        for name, node in nodes():
            at = (name, getattr(node, "lineno", None))
            self.assertNotIsInstance(node, NOT_USED, at)
            self.assertFalse(getattr(node, "decorator_list", []), at)
            if isinstance(node, ast.Constant):
                self.assertNotIsInstance(node.value, (float, complex), at)
            if isinstance(node, (ast.For, ast.While)):
                self.assertEqual(node.orelse, [], at)

    def test_python_s_own_names(self):
        for name, node in nodes():
            if isinstance(node, ast.Name) and hasattr(builtins, node.id):
                self.assertIn(node.id, OWN_NAMES, name)
                self.assertIsInstance(node.ctx, ast.Load, (name, node.id))
            if isinstance(node, ast.arg):
                self.assertFalse(hasattr(builtins, node.arg), (name, node.arg))

    def test_names_begin_with_a_letter(self):
        for name, node in nodes():
            for given in ("id", "arg", "attr", "name"):
                word = getattr(node, given, None)
                if isinstance(word, str) and word != "__init__":
                    self.assertRegex(word, r"^[A-Za-z]", name)

    def test_no_local_is_called_like_a_name_of_the_top(self):
        for name, tree in trees():
            self.assertFalse(set(names_given(tree)) & set(top_names(tree)), name)
            self.assertEqual(len(top_names(tree)), len(set(top_names(tree))), name)

    def test_files_draw_from_one_another_one_way_alone(self):
        drawn = {name[:-3]: {row.module.split(".")[-1] for row in tree.body if isinstance(row, ast.ImportFrom)}
                 for name, tree in trees()}
        done = set()
        while len(done) < len(drawn):
            free = {name for name in drawn if name not in done and drawn[name] <= done}
            self.assertTrue(free, "a ring of imports")
            done |= free

    def test_nothing_drawn_in_is_left_unused(self):
        for name, tree in trees():
            used = {node.id for node in ast.walk(tree) if isinstance(node, ast.Name)}
            for row in tree.body:
                if isinstance(row, ast.ImportFrom) and name != "__init__.py":
                    self.assertLessEqual({part.name for part in row.names}, used, name)

    def test_is_stands_beside_none_true_and_false_alone(self):
        for name, node in nodes():
            if isinstance(node, ast.Compare):
                for sign, thing in zip(node.ops, node.comparators):
                    if isinstance(sign, (ast.Is, ast.IsNot)):
                        self.assertIsInstance(thing, ast.Constant, name)
                        self.assertIn(thing.value, (None, True, False), name)

    def test_methods_and_values_are_told_apart(self):
        methods, values = own_methods(), own_values()
        self.assertFalse(methods & values)
        for name, node in nodes():
            if isinstance(node, ast.Call) and isinstance(node.func, ast.Attribute):
                self.assertIn(node.func.attr, METHODS | methods, name)
            if isinstance(node, ast.Attribute):
                self.assertIn(node.attr, METHODS | methods | values, name)

    def test_walked_at_once(self):
        for name, tree in trees():
            walked = walked_at_once(tree)
            for node in ast.walk(tree):
                if not isinstance(node, ast.Call):
                    continue
                kept = isinstance(node.func, ast.Name) and node.func.id in AT_ONCE
                kept = kept or isinstance(node.func, ast.Attribute) and node.func.attr in ("items", "keys", "values")
                if kept:
                    self.assertTrue(any(node is other for other in walked), (name, node.lineno))


if __name__ == "__main__":
    unittest.main()
