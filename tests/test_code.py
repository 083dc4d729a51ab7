"""The form of the code: sizes, signs, imports and names that a look at the files can tell."""

import ast
import pathlib
import unittest

PACKAGE = pathlib.Path(__file__).resolve().parent.parent / "clearline"
FILES = sorted(PACKAGE.rglob("*.py"))
LIBRARY = {"heapq", "math", "itertools", "collections"}
# Names that a file of the package must not use for anything of its own (L17, and builtins that L8 does not list).
BARRED_NAMES = {
    "mro", "elements", "open", "input", "law", "version_info", "with_traceback", "add_note", "compile", "dir", "eval",
    "exec", "exit", "gc", "globals", "help", "id", "locals", "os", "vars", "print", "map", "filter", "hash", "round",
    "format", "object", "frozenset", "bytearray", "slice", "callable", "float", "complex", "chr", "hex", "bin", "oct",
}
BARRED = (ast.AsyncFunctionDef, ast.Await, ast.AsyncFor, ast.AsyncWith, ast.Div)


class CodeTest(unittest.TestCase):
    def trees(self):
        for file in FILES:
            with self.subTest(file.name):
                yield file, ast.parse(file.read_text(encoding="utf-8"))

    def test_the_package_holds_nothing_else(self):
        others = [
            path for path in PACKAGE.rglob("*")
            if path.is_file() and path.suffix != ".py" and "__pycache__" not in path.parts
        ]
        self.assertEqual(others, [])
        self.assertIn(PACKAGE / "__init__.py", FILES)

    def test_sizes_and_signs(self):
        for file in FILES:
            with self.subTest(file.name):
                text = file.read_text(encoding="utf-8")
                self.assertLessEqual(set(text), {chr(code) for code in range(32, 127)} | {"\n"})
                lines = text.splitlines()
                self.assertLessEqual(len(lines), 399)
                self.assertLessEqual(max(map(len, lines)), 120)

    def test_functions_are_small(self):
        for file, tree in self.trees():
            for node in ast.walk(tree):
                if isinstance(node, ast.FunctionDef):
                    self.assertLessEqual(node.end_lineno - node.lineno + 1, 40, node.name)
                    self.assertEqual(node.decorator_list, [], node.name)

    def test_imports_are_of_the_package(self):
        for file, tree in self.trees():
            for node in ast.walk(tree):
                self.assertNotIsInstance(node, ast.Import)
                if isinstance(node, ast.ImportFrom):
                    self.assertEqual(node.level, 0)
                    root = node.module.split(".")[0]
                    self.assertTrue(root == "clearline" or node.module in LIBRARY, node.module)
                    self.assertTrue(all(alias.asname is None for alias in node.names))

    def test_barred_statements(self):
        for file, tree in self.trees():
            for node in ast.walk(tree):
                self.assertNotIsInstance(node, BARRED)
                if isinstance(node, ast.Constant):
                    self.assertNotIsInstance(node.value, (float, complex))

    def test_barred_names(self):
        for file, tree in self.trees():
            for node in ast.walk(tree):
                for field in ("id", "attr", "arg", "name"):
                    self.assertNotIn(getattr(node, field, None), BARRED_NAMES, file.name)

    def test_no_name_of_an_import_is_given_another_meaning(self):
        for file, tree in self.trees():
            imported = {alias.name for node in tree.body if isinstance(node, ast.ImportFrom) for alias in node.names}
            for node in ast.walk(tree):
                if isinstance(node, ast.arg):
                    self.assertNotIn(node.arg, imported, file.name)
                if isinstance(node, ast.Name) and isinstance(node.ctx, ast.Store):
                    self.assertNotIn(node.id, imported, file.name)
                if isinstance(node, (ast.FunctionDef, ast.ClassDef)):
                    self.assertNotIn(node.name, imported, file.name)

    def test_module_level(self):
        allowed = (ast.ImportFrom, ast.FunctionDef, ast.ClassDef, ast.Assign, ast.Expr)
        for file, tree in self.trees():
            for node in tree.body:
                self.assertIsInstance(node, allowed)
                if isinstance(node, ast.Expr):
                    self.assertIsInstance(node.value, ast.Constant)


if __name__ == "__main__":
    unittest.main()
