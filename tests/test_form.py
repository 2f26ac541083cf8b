"""The form of the package's files, as far as a few plain rules of it can be read off."""

import ast
import pathlib
import unittest

HERE = pathlib.Path(__file__).resolve().parent
PACKAGE = HERE.parent / "manyruns"
FILES = sorted(PACKAGE.rglob("*.py"))
TEXTS = {path: path.read_text(encoding="utf-8") for path in FILES}
LIBRARY = ("heapq", "math", "itertools")


class FormTest(unittest.TestCase):

    def test_the_package_is_of_python_files_alone(self):
        self.assertIn(PACKAGE / "__init__.py", FILES)
        there = [path for path in PACKAGE.rglob("*") if path.is_file() and path.parent.name != "__pycache__"]
        self.assertEqual(sorted(there), FILES)

    def test_each_file_has_a_test(self):
        for path in FILES:
            if path.stem != "__init__":
                with self.subTest(file=path.name):
                    self.assertTrue((HERE / f"test_{path.stem}.py").is_file())

    def test_no_test_stands_in_the_package(self):
        self.assertEqual([path for path in FILES if path.stem.startswith("test")], [])

    def test_sizes_of_files_lines_and_functions(self):
        for path, text in TEXTS.items():
            rows = text.split("\n")
            with self.subTest(file=path.name):
                self.assertLessEqual(len(rows), 400)
                self.assertLessEqual(max(len(row) for row in rows), 120)
                for node in ast.walk(ast.parse(text)):
                    if isinstance(node, ast.FunctionDef):
                        self.assertLessEqual(node.end_lineno - node.lineno + 1, 40, node.name)

    def test_signs(self):
        for path, text in TEXTS.items():
            with self.subTest(file=path.name):
                self.assertEqual([sign for sign in text if sign != "\n" and not " " <= sign <= "~"], [])
                for node in ast.walk(ast.parse(text)):
                    if isinstance(node, ast.Constant) and isinstance(node.value, str):
                        self.assertNotIn("%", node.value)

    def test_imports_are_from_the_package_and_few_of_the_library(self):
        for path, text in TEXTS.items():
            with self.subTest(file=path.name):
                for node in ast.walk(ast.parse(text)):
                    self.check_import(path, node)

    def check_import(self, path, node):
        if isinstance(node, ast.Import):
            self.assertEqual((path.name, [name.name for name in node.names]), ("__main__.py", ["sys"]))
        if isinstance(node, ast.ImportFrom):
            self.assertEqual(node.level, 0)
            self.assertTrue(node.module.startswith("manyruns.") or node.module in LIBRARY, node.module)
            self.assertNotIn("*", [name.name for name in node.names])


if __name__ == "__main__":
    unittest.main()
