"""Such rules of LANGUAGE.md as a test can see, for every file of the package."""

import ast
import builtins
import pathlib
import unittest
import warnings

FOLDER = pathlib.Path(__file__).resolve().parent.parent / "tunehall"
FILES = sorted(path for path in FOLDER.rglob("*") if path.is_file() and "__pycache__" not in path.parts)
BUILTINS = set(
    "len range enumerate zip min max sum abs sorted reversed int str bool bytes list tuple dict set isinstance ord "
    "repr any all divmod pow super iter next map Exception ValueError TypeError KeyError IndexError LookupError "
    "ZeroDivisionError ArithmeticError OverflowError RuntimeError NotImplementedError NotImplemented".split())
METHODS = set(
    "append clear copy count endswith extend find get index insert isalnum isalpha isdigit islower isspace isupper "
    "items join keys ljust lower lstrip partition pop remove replace reverse rfind rjust rpartition rsplit rstrip "
    "setdefault split splitlines startswith strip update upper values zfill bit_length sort add discard".split())
BARRED_WORDS = set(
    "register mro elements open input law version_info with_traceback add_note type typing enum Enum namedtuple "
    "global eval exec compile globals locals vars dir id chr frozenset print float".split())
BARRED_NODES = (
    ast.Global, ast.AsyncFunctionDef, ast.AsyncFor, ast.AsyncWith, ast.Await, ast.Import, ast.Div, ast.MatMult,
    ast.TryStar)


def nodes_of(path):
    return list(ast.walk(ast.parse(path.read_text(encoding="ascii"))))


def bound_names(nodes):
    """The names that a file's functions, classes, parameters and assignments bind."""
    for node in nodes:
        if isinstance(node, (ast.FunctionDef, ast.ClassDef)):
            yield node.name
        elif isinstance(node, ast.arg):
            yield node.arg
        elif isinstance(node, ast.Name) and not isinstance(node.ctx, ast.Load):
            yield node.id


class Language(unittest.TestCase):
    def test_files(self):
        self.assertIn(FOLDER / "__init__.py", FILES)
        for path in FILES:
            with self.subTest(file=path.name):
                self.assertRegex(path.name, r"^[a-z_][a-z0-9_]*\.py$")

    def test_size_and_characters(self):
        for path in FILES:
            with self.subTest(file=path.name):
                text = path.read_bytes().decode("ascii")
                self.assertFalse(set(text) - {chr(code) for code in range(32, 127)} - {"\n"})
                self.assertLessEqual(len(text.splitlines()), 399)
                self.assertLessEqual(max(map(len, text.splitlines())), 120)
                for node in nodes_of(path):
                    if isinstance(node, ast.FunctionDef):
                        self.assertLessEqual(node.end_lineno - node.lineno + 1, 40, node.name)

    def test_imports(self):
        for path in FILES:
            with self.subTest(file=path.name):
                for node in nodes_of(path):
                    if isinstance(node, ast.ImportFrom):
                        self.assertEqual(node.level, 0)
                        library = node.module in ("heapq", "math", "itertools", "collections", "__future__")
                        self.assertTrue(library or node.module.startswith("tunehall."), node.module)
                        self.assertNotIn("*", [name.name for name in node.names])

    def test_statements_and_values(self):
        for path in FILES:
            with self.subTest(file=path.name):
                for node in nodes_of(path):
                    self.assertNotIsInstance(node, BARRED_NODES)
                    if isinstance(node, ast.Constant):
                        self.assertNotIsInstance(node.value, (float, complex))
                        self.assertNotIn(chr(37), str(node.value))

    def test_module_level(self):
        allowed = (ast.ImportFrom, ast.FunctionDef, ast.ClassDef, ast.Assign, ast.Expr)
        for path in FILES:
            with self.subTest(file=path.name):
                for node in ast.parse(path.read_text(encoding="ascii")).body:
                    self.assertIsInstance(node, allowed)
                    if isinstance(node, ast.Expr):
                        self.assertIsInstance(node.value, ast.Constant)

    def test_names(self):
        for path in FILES:
            with self.subTest(file=path.name):
                nodes = nodes_of(path)
                bound = set(bound_names(nodes))
                self.assertFalse(bound & set(dir(builtins)) - {"__init__"})
                self.assertFalse(bound & BARRED_WORDS)
                used = {node.id for node in nodes if isinstance(node, ast.Name) and isinstance(node.ctx, ast.Load)}
                self.assertFalse(used & (set(dir(builtins)) - BUILTINS))
                self.assertNotIn("_", used)

    def test_methods(self):
        own = {name for path in FILES for name in bound_names(nodes_of(path))} | {"__init__"}
        for path in FILES:
            with self.subTest(file=path.name):
                for node in nodes_of(path):
                    if isinstance(node, ast.Call) and isinstance(node.func, ast.Attribute):
                        self.assertIn(node.func.attr, METHODS | own)

    def test_python_gives_no_warning(self):
        for path in FILES:
            with self.subTest(file=path.name):
                with warnings.catch_warnings():
                    warnings.simplefilter("error")
                    compile(path.read_text(encoding="ascii"), str(path), "exec")


if __name__ == "__main__":
    unittest.main()
