"""The rules of the language that a short look at the files can check."""

import ast
import builtins
import pathlib
import unittest

from names import excluded_names

PACKAGE = pathlib.Path(__file__).resolve().parent.parent / "clockslack"
LIBRARY = ("heapq", "math", "itertools", "collections", "__future__")
ALLOWED = (
    "len range enumerate zip min max sum abs sorted reversed int str bool list tuple dict set frozenset isinstance "
    "ord repr any all divmod pow getattr hasattr setattr iter next map property staticmethod classmethod super object "
    "Exception ValueError TypeError KeyError IndexError LookupError ZeroDivisionError ArithmeticError OverflowError "
    "RuntimeError NotImplementedError AttributeError StopIteration NotImplemented").split()
FORBIDDEN_NODES = (ast.Import, ast.Global, ast.AsyncFunctionDef, ast.AsyncFor, ast.AsyncWith, ast.Await, ast.Div)
METHODS = (
    "__init__ __eq__ __repr__ __str__ __len__ __enter__ __exit__ __call__ __iter__ __contains__ __getitem__ "
    "__add__ __bool__ __lt__ __le__ __gt__ __ge__ __ne__").split()


def bound_names(node):
    """Name what a node of the tree binds, attributes and methods excepted."""
    if isinstance(node, ast.arg):
        return [node.arg]
    if isinstance(node, ast.Name) and not isinstance(node.ctx, ast.Load):
        return [node.id]
    if isinstance(node, ast.ImportFrom):
        return [alias.asname or alias.name for alias in node.names]
    if isinstance(node, (ast.Module, ast.FunctionDef)):
        return [part.name for part in node.body if isinstance(part, (ast.FunctionDef, ast.ClassDef))]
    return []


class Language(unittest.TestCase):

    def files(self):
        found = sorted(PACKAGE.rglob("*.py"))
        self.assertIn(PACKAGE / "__init__.py", found)
        for path in found:
            yield path.name, path.read_text(encoding="latin-1")

    def nodes(self, *kinds):
        for name, text in self.files():
            for node in ast.walk(ast.parse(text)):
                if isinstance(node, kinds or ast.AST):
                    yield f"{name}:{getattr(node, 'lineno', 0)}", node

    def test_the_folder_contains_plain_python_files(self):
        for path in PACKAGE.rglob("*"):
            if "__pycache__" not in path.parts:
                self.assertRegex(path.name, r"\A([a-z][a-z0-9_]*|__init__|__main__)\.py\Z")

    def test_characters_and_sizes(self):
        for name, text in self.files():
            self.assertNotRegex(text, r"[^ -~\n]", name)
            lines = text.splitlines()
            self.assertLessEqual(len(lines), 399, name)
            self.assertLessEqual(max(map(len, lines)), 120, name)

    def test_functions_are_short(self):
        for place, node in self.nodes(ast.FunctionDef):
            self.assertLessEqual(node.end_lineno - node.lineno + 1, 40, place)

    def test_imports(self):
        for place, node in self.nodes(ast.ImportFrom):
            self.assertEqual(node.level, 0, place)
            self.assertNotIn("*", [alias.name for alias in node.names], place)
            self.assertRegex(node.module, r"\A(clockslack\.\w+|" + "|".join(LIBRARY) + r")\Z", place)

    def test_nothing_that_is_forbidden(self):
        for place, node in self.nodes():
            self.assertNotIsInstance(node, FORBIDDEN_NODES, place)
            if isinstance(node, ast.Constant):
                self.assertNotIsInstance(node.value, (float, complex), place)
                if isinstance(node.value, str):
                    self.assertNotIn("%", node.value, place)

    def test_builtins(self):
        for place, node in self.nodes():
            if isinstance(node, ast.Name) and hasattr(builtins, node.id):
                self.assertIn(node.id, ALLOWED, place)
            for name in bound_names(node):
                self.assertFalse(hasattr(builtins, name), f"{place} {name}")

    def test_names(self):
        for name, text in self.files():
            self.assertEqual(excluded_names(text), [], name)

    def test_methods(self):
        for place, node in self.nodes(ast.ClassDef):
            self.assertEqual(node.decorator_list, [], place)
            for part in node.body:
                if isinstance(part, ast.FunctionDef) and part.name.startswith("__"):
                    self.assertIn(part.name, METHODS, place)


if __name__ == "__main__":
    unittest.main()
