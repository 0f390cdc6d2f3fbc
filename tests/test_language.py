import ast
import builtins
import unittest
from pathlib import Path

PACKAGE = Path(__file__).resolve().parent.parent / "coolway"
FILES = sorted(path for path in PACKAGE.rglob("*") if path.is_file() and "__pycache__" not in path.parts)
LIBRARY = ("heapq", "math", "itertools", "collections")
BANNED = (ast.AsyncFunctionDef, ast.Await, ast.Div, ast.Import, ast.MatMult)


def bound_names(tree):
    for node in ast.walk(tree):
        if isinstance(node, ast.Name) and isinstance(node.ctx, ast.Store):
            yield node.id
        elif isinstance(node, (ast.FunctionDef, ast.ClassDef)) and not node.name.startswith("__"):
            yield node.name
        elif isinstance(node, ast.arg):
            yield node.arg
        elif isinstance(node, ast.alias):
            yield node.asname or node.name


class Language(unittest.TestCase):
    """Those rules of the language that can be seen without knowing more than the file."""

    def trees(self):
        for path in FILES:
            yield path.name, ast.parse(path.read_text())

    def test_files(self):
        self.assertIn(PACKAGE / "__init__.py", FILES)
        for path in FILES:
            self.assertEqual((path.suffix, path.name), (".py", path.name.lower()))
            text = path.read_text()
            self.assertTrue(all(sign == "\n" or " " <= sign <= "~" for sign in text), path.name)
            lines = text.splitlines()
            self.assertLessEqual(len(lines), 399, path.name)
            self.assertLessEqual(max(map(len, lines), default=0), 120, path.name)

    def test_functions_are_small(self):
        for name, tree in self.trees():
            for node in ast.walk(tree):
                if isinstance(node, ast.FunctionDef):
                    self.assertLessEqual(node.end_lineno - node.lineno + 1, 40, (name, node.name))

    def test_imports(self):
        for name, tree in self.trees():
            for node in ast.walk(tree):
                if isinstance(node, ast.ImportFrom):
                    known = node.module.startswith("coolway.") or node.module in LIBRARY
                    self.assertTrue(known and node.level == 0, (name, node.module))
                    self.assertFalse(any(alias.asname or alias.name == "*" for alias in node.names), name)

    def test_what_the_program_does_without(self):
        for name, tree in self.trees():
            for node in ast.walk(tree):
                self.assertNotIsInstance(node, BANNED, (name, getattr(node, "lineno", None)))
                if isinstance(node, ast.Constant):
                    self.assertNotIsInstance(node.value, (float, complex), name)

    def test_decorators(self):
        for name, tree in self.trees():
            for node in ast.walk(tree):
                if isinstance(node, ast.FunctionDef):
                    self.assertIn([ast.unparse(each) for each in node.decorator_list], ([], ["property"]), name)

    def test_no_name_is_that_of_a_builtin(self):
        for name, tree in self.trees():
            for bound in bound_names(tree):
                # Interactive examples leave their last value there as "_".
                self.assertTrue(bound == "_" or not hasattr(builtins, bound), (name, bound))

    def test_no_variable_has_the_name_of_an_import_or_a_class(self):
        for name, tree in self.trees():
            taken = [alias.name for node in ast.walk(tree) if isinstance(node, ast.ImportFrom) for alias in node.names]
            taken += [node.name for node in tree.body if isinstance(node, (ast.ClassDef, ast.FunctionDef))]
            if name == "needs.py":
                # The interface itself has a function and a parameter of this name.
                taken.remove("needs")
            for node in ast.walk(tree):
                if isinstance(node, ast.Name) and isinstance(node.ctx, ast.Store):
                    self.assertNotIn(node.id, taken, name)
                elif isinstance(node, ast.arg):
                    self.assertNotIn(node.arg, taken, name)


if __name__ == "__main__":
    unittest.main()
