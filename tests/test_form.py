"""The form of the package's files, as far as a few plain rules of it can be read off."""

import ast
import builtins
import pathlib
import unittest

HERE = pathlib.Path(__file__).resolve().parent
PACKAGE = HERE.parent / "manyruns"
FILES = sorted(PACKAGE.rglob("*.py"))
TEXTS = {path: path.read_text(encoding="utf-8") for path in FILES}
LIBRARY = ("heapq", "math", "itertools")
BUILTINS = (
    "len", "range", "enumerate", "zip", "min", "max", "sum", "abs", "sorted", "reversed", "int", "str", "bool", "list",
    "tuple", "dict", "set", "isinstance", "ord", "repr", "any", "all", "divmod", "map", "iter", "next", "Exception",
    "ValueError", "TypeError", "KeyError", "IndexError", "LookupError", "OverflowError", "RuntimeError", "super",
    "property", "staticmethod", "classmethod",
)
BARRED = (
    "register", "mro", "elements", "open", "input", "law", "version_info", "with_traceback", "add_note", "attrgetter",
    "breakpoint", "builtins", "compile", "copyright", "credits", "delattr", "dir", "eval", "exec", "exit", "gc",
    "getattr", "globals", "hasattr", "help", "id", "importlib", "license", "locals", "methodcaller", "os", "quit",
    "setattr", "sys", "type", "vars",
)
METHODS = (
    "append clear copy count endswith extend find get index insert isalnum isalpha isdigit islower isspace isupper"
    " items join keys ljust lower lstrip partition pop remove replace reverse rfind rjust rpartition rsplit rstrip"
    " setdefault split splitlines startswith strip update upper values zfill bit_length add discard"
).split(" ")


class FormTest(unittest.TestCase):

    def test_the_package_is_of_python_files_alone(self):
        self.assertIn(PACKAGE / "__init__.py", FILES)
        there = [path for path in PACKAGE.rglob("*") if path.is_file() and path.parent.name != "__pycache__"]
        self.assertEqual(sorted(there), FILES)

    def test_each_file_has_a_test(self):
        for path in FILES:
            if path.stem != "__init__":
                with self.subTest(file=path.name):
                    self.assertTrue((HERE / f"test_{path.stem}.py").is_file())

    def test_no_test_stands_in_the_package(self):
        self.assertEqual([path for path in FILES if path.stem.startswith("test")], [])

    def test_sizes_of_files_lines_and_functions(self):
        for path, text in TEXTS.items():
            rows = text.split("\n")
            with self.subTest(file=path.name):
                self.assertLessEqual(len(rows), 400)
                self.assertLessEqual(max(len(row) for row in rows), 120)
                for node in ast.walk(ast.parse(text)):
                    if isinstance(node, ast.FunctionDef):
                        self.assertLessEqual(node.end_lineno - node.lineno + 1, 40, node.name)

    def test_signs(self):
        for path, text in TEXTS.items():
            with self.subTest(file=path.name):
                self.assertEqual([sign for sign in text if sign != "\n" and not " " <= sign <= "~"], [])
                for node in ast.walk(ast.parse(text)):
                    if isinstance(node, ast.Constant) and isinstance(node.value, str):
                        self.assertNotIn("%", node.value)

    def test_imports_are_from_the_package_and_few_of_the_library(self):
        for path, text in TEXTS.items():
            with self.subTest(file=path.name):
                for node in ast.walk(ast.parse(text)):
                    self.check_import(path, node)

    def check_import(self, path, node):
        if isinstance(node, ast.Import):
            self.assertEqual((path.name, [name.name for name in node.names]), ("__main__.py", ["sys"]))
        if isinstance(node, ast.ImportFrom):
            self.assertEqual(node.level, 0)
            self.assertTrue(node.module.startswith("manyruns.") or node.module in LIBRARY, node.module)
            self.assertNotIn("*", [name.name for name in node.names])

    def nodes(self):
        for path, text in TEXTS.items():
            for node in ast.walk(ast.parse(text)):
                yield path, node

    def test_names(self):
        for path, node in self.nodes():
            name = getattr(node, "id", None) or getattr(node, "arg", None)
            if isinstance(name, str):
                with self.subTest(file=path.name, name=name):
                    self.assertTrue(name.isascii() and not name.startswith("__"))
                    self.assertNotIn(name, BARRED)
                    # A name of Python's own is read alone, and given no other meaning.
                    if hasattr(builtins, name):
                        self.assertIn(name, BUILTINS)
                        self.assertIsInstance(getattr(node, "ctx", None), ast.Load)

    def test_methods_that_are_called_are_few_or_own(self):
        own = {node.name for _, node in self.nodes() if isinstance(node, ast.FunctionDef)}
        for path, node in self.nodes():
            if isinstance(node, ast.Call) and isinstance(node.func, ast.Attribute):
                with self.subTest(file=path.name, method=node.func.attr):
                    self.assertTrue(node.func.attr in METHODS or node.func.attr in own)

    def test_things_that_are_left_out(self):
        for path, node in self.nodes():
            with self.subTest(file=path.name, line=getattr(node, "lineno", 0)):
                self.assertNotIsInstance(node, (ast.Global, ast.AsyncFunctionDef, ast.Div, ast.MatMult, ast.Set))
                self.assertFalse(isinstance(node, ast.Constant) and isinstance(node.value, float))
                if isinstance(node, ast.BinOp) and isinstance(node.op, ast.Pow):
                    self.assertIsInstance(node.right, ast.Constant)
                if isinstance(node, ast.Call) and isinstance(node.func, ast.Attribute):
                    self.assertNotEqual(node.func.attr, "sort")


if __name__ == "__main__":
    unittest.main()
