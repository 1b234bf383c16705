"""The rules of the language that can be counted: files, imports, signs and sizes (L1, L2, L7 to L10, L14, L27)."""

import ast
import builtins
import pathlib
import unittest

PACKAGE = pathlib.Path(__file__).resolve().parent.parent / "timestretch"
FILES = sorted(PACKAGE.rglob("*.py"))
LIBRARY = ("heapq", "math", "itertools", "collections", "__future__")
BUILTINS = (
    "len range enumerate zip min max sum abs sorted reversed int str bool bytes list tuple dict set frozenset "
    "isinstance ord repr any all divmod pow getattr hasattr setattr iter next map type super ValueError"
).split()


class Language(unittest.TestCase):
    def test_the_package_holds_python_files_alone(self):
        found = [path for path in PACKAGE.rglob("*") if path.is_file() and path.parent.name != "__pycache__"]
        self.assertEqual(sorted(found), FILES)
        self.assertIn(PACKAGE / "__init__.py", FILES)

    def test_signs_and_sizes(self):
        for path in FILES:
            text = path.read_bytes().decode("ascii")
            lines = text.split("\n")
            self.assertLessEqual(len(lines) - 1, 399, path)
            self.assertLessEqual(max(len(line) for line in lines), 120, path)
            self.assertEqual([sign for sign in text if not (" " <= sign <= "~" or sign == "\n")], [], path)

    def test_functions_are_short(self):
        for path, node in nodes():
            if isinstance(node, ast.FunctionDef):
                self.assertLessEqual(node.end_lineno - node.lineno + 1, 40, (path, node.name))

    def test_imports_are_own_or_allowed_and_by_full_names(self):
        for path, node in nodes():
            self.assertNotIsInstance(node, ast.Import, path)
            if isinstance(node, ast.ImportFrom):
                self.assertEqual(node.level, 0, path)
                if node.module not in LIBRARY:
                    self.assertTrue(node.module.startswith("timestretch."), (path, node.module))

    def test_no_builtin_that_reaches_the_machine(self):
        """Point 1 as well: no clock, chance or files, which begin with open, input, __import__ and their kin."""
        for path, node in nodes():
            if isinstance(node, ast.Name) and node.id in dir(builtins):
                self.assertIn(node.id, BUILTINS, path)

    def test_no_decorators_no_global_state(self):
        for path, node in nodes():
            if isinstance(node, (ast.FunctionDef, ast.ClassDef)):
                self.assertEqual(node.decorator_list, [], (path, node.name))
            self.assertNotIsInstance(node, (ast.Global, ast.Nonlocal), path)
            if isinstance(node, ast.Module):
                for statement in node.body:
                    kinds = (ast.Expr, ast.ImportFrom, ast.FunctionDef, ast.ClassDef, ast.Assign)
                    self.assertIsInstance(statement, kinds, path)
                    if isinstance(statement, ast.Assign):
                        # A number, a string or a tuple of these: nothing that could be changed.
                        hash(ast.literal_eval(statement.value))

    def test_no_floats_and_no_percent_signs(self):
        for path, node in nodes():
            self.assertNotIsInstance(node, ast.Div, path)
            if isinstance(node, ast.Constant):
                self.assertNotIsInstance(node.value, float, path)
                self.assertNotIn("%", str(node.value), path)


def nodes():
    """Each node of the package's syntax trees, beside its file."""
    return [(path, node) for path in FILES for node in ast.walk(ast.parse(path.read_text("ascii")))]


if __name__ == "__main__":
    unittest.main()
