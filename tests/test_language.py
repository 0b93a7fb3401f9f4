"""Those rules of the language that a look at the package's text can tell."""

import ast
import pathlib
import unittest

PACKAGE = pathlib.Path(__file__).resolve().parent.parent / "seatmarks"

BUILTINS = {"len", "range", "enumerate", "zip", "min", "max", "sum", "abs", "sorted", "int",
            "list", "tuple", "dict", "any", "all", "type", "ValueError"}


def files():
    return sorted(PACKAGE.glob("*.py"))


def nodes(path, *kinds):
    return [node for node in ast.walk(ast.parse(path.read_text())) if isinstance(node, kinds)]


class LanguageTest(unittest.TestCase):

    def test_the_folder_contains_python_files_only(self):
        found = sorted(path.name for path in PACKAGE.iterdir() if path.name != "__pycache__")
        self.assertEqual(found, sorted(path.name for path in files()))
        self.assertIn("__init__.py", found)

    def test_sizes_and_characters(self):
        for path in files():
            text = path.read_bytes()
            self.assertTrue(all(sign == 10 or 32 <= sign <= 126 for sign in text), path)
            lines = text.decode("ascii").split("\n")
            self.assertLessEqual(len(lines), 400)
            self.assertLessEqual(max(len(line) for line in lines), 120)
            for node in nodes(path, ast.FunctionDef):
                self.assertLessEqual(node.end_lineno - node.lineno + 1, 40, node.name)

    def test_imports_are_of_the_package(self):
        for path in files():
            self.assertEqual(nodes(path, ast.Import), [])
            for node in nodes(path, ast.ImportFrom):
                self.assertEqual(node.level, 0)
                self.assertTrue(node.module.startswith("seatmarks."), node.module)
                self.assertTrue(all(name.asname is None and name.name != "*"
                                    for name in node.names))

    def test_only_listed_builtins(self):
        known = set(dir(__builtins__)) | set(__builtins__ if isinstance(__builtins__, dict) else ())
        for path in files():
            for node in nodes(path, ast.Name):
                if node.id in known:
                    self.assertIn(node.id, BUILTINS, path)

    def test_no_float_and_no_division(self):
        for path in files():
            self.assertEqual(nodes(path, ast.Div, ast.Global, ast.AsyncFunctionDef), [])
            for node in nodes(path, ast.Constant):
                self.assertNotIsInstance(node.value, (float, complex))


if __name__ == "__main__":
    unittest.main()
