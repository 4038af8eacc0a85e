"""The plainest rules of the language that the package is written in, so that a slip is seen at once."""

import ast
import pathlib
import unittest
import warnings

PACKAGE = pathlib.Path(__file__).resolve().parent.parent / "stemkeep"
FILES = sorted(PACKAGE.rglob("*.py"))
LIBRARY = ("heapq", "math", "itertools", "collections", "__future__")
BUILTINS = set(
    "len range enumerate zip min max sum abs sorted reversed int str bool list tuple dict set frozenset isinstance ord "
    "repr any all divmod pow getattr hasattr setattr iter next map type super property staticmethod classmethod "
    "Exception ValueError TypeError KeyError IndexError LookupError ZeroDivisionError ArithmeticError OverflowError "
    "RuntimeError NotImplementedError AttributeError StopIteration NotImplemented object float bytes".split()
)
BARRED_NAMES = set("register mro elements open input law version_info with_traceback add_note".split())
BARRED_ATTRIBUTES = set(
    "items keys values pop update append clear extend insert remove reverse setdefault sort args encode decode hex "
    "fromhex format".split()
)
BARRED_NODES = (
    ast.AsyncFunctionDef, ast.AsyncFor, ast.AsyncWith, ast.Await, ast.Global, ast.TryStar, ast.Div, ast.MatMult,
)


def all_builtins():
    """Tell the names that Python itself has."""
    return set(dir(__import__("builtins")))


class TestLanguage(unittest.TestCase):

    def each(self):
        """Tell (file, text, tree) of each file of the package."""
        return [(path, path.read_text("utf-8"), ast.parse(path.read_text("utf-8"))) for path in FILES]

    def each_node(self):
        """Tell (file with line, node) of each node of the package."""
        return [(f"{path.name}:{getattr(node, 'lineno', 0)}", node)
                for path, text, tree in self.each() for node in ast.walk(tree)]

    def test_files_of_python_alone(self):
        others = [path for path in PACKAGE.rglob("*") if path.is_file() and path.suffix != ".py"]
        self.assertEqual([path for path in others if path.parent.name != "__pycache__"], [])
        for path in FILES:
            self.assertRegex(path.name, r"\A[a-z0-9_]+\.py\Z")

    def test_sizes_and_characters(self):
        for path, text, tree in self.each():
            lines = text.split("\n")
            self.assertLessEqual(len(lines), 399, path)
            self.assertLessEqual(max(len(line) for line in lines), 120, path)
            self.assertTrue(all(sign == "\n" or " " <= sign <= "~" for sign in text), path)
            for node in ast.walk(tree):
                if isinstance(node, ast.FunctionDef):
                    self.assertLessEqual(node.end_lineno - node.lineno + 1, 40, (path, node.name))

    def test_no_warnings(self):
        for path, text, _ in self.each():
            with warnings.catch_warnings():
                warnings.simplefilter("error")
                compile(text, str(path), "exec")

    def test_imports(self):
        for where, node in self.each_node():
            if isinstance(node, ast.Import):
                self.assertTrue(where.startswith("__main__.py"), where)
            if isinstance(node, ast.ImportFrom):
                self.assertEqual(node.level, 0, where)
                self.assertIn(node.module.split(".")[0], LIBRARY + ("stemkeep",), where)
                self.assertNotIn("*", [name.name for name in node.names], where)

    def test_statements_and_expressions(self):
        for where, node in self.each_node():
            self.assertNotIsInstance(node, BARRED_NODES, where)
            if isinstance(node, ast.Constant):
                self.assertNotIsInstance(node.value, (float, complex), where)
            if isinstance(node, ast.Constant) and isinstance(node.value, str):
                self.assertFalse(any(ord(sign) < 32 and sign not in "\n\t" for sign in node.value), where)

    def test_names(self):
        strange = all_builtins() - BUILTINS
        for where, node in self.each_node():
            if isinstance(node, ast.Name):
                self.assertNotIn(node.id, strange, where)
                self.assertNotIn(node.id, BARRED_NAMES, where)
                if isinstance(node.ctx, ast.Store):
                    self.assertNotIn(node.id, all_builtins(), where)
            if isinstance(node, ast.arg):
                self.assertNotIn(node.arg, all_builtins() | BARRED_NAMES, where)
            if isinstance(node, ast.Attribute):
                self.assertNotIn(node.attr, BARRED_NAMES, where)
                if isinstance(node.ctx, ast.Store):
                    self.assertNotIn(node.attr, BARRED_ATTRIBUTES, where)


if __name__ == "__main__":
    unittest.main()
