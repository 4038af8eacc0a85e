"""The plainest rules of the language that the package is written in, so that a slip is seen at once."""

import ast
import pathlib
import unittest
import warnings

PACKAGE = pathlib.Path(__file__).resolve().parent.parent / "stemkeep"
FILES = sorted(PACKAGE.rglob("*.py"))
LIBRARY = ("heapq", "math", "itertools", "collections", "__future__")
BUILTINS = set(
    "len range enumerate zip min max sum abs sorted reversed int str bool list tuple dict set frozenset isinstance ord "
    "repr any all divmod pow getattr hasattr setattr iter next map type super property staticmethod classmethod "
    "Exception ValueError TypeError KeyError IndexError LookupError ZeroDivisionError ArithmeticError OverflowError "
    "RuntimeError NotImplementedError AttributeError StopIteration NotImplemented object float bytes".split()
)
BARRED_NAMES = set("register mro elements open input law version_info with_traceback add_note".split())
BARRED_ATTRIBUTES = set(
    "items keys values pop update append clear extend insert remove reverse setdefault sort args encode decode hex "
    "fromhex format".split()
)
BARRED_NODES = (
    ast.AsyncFunctionDef, ast.AsyncFor, ast.AsyncWith, ast.Await, ast.Global, ast.TryStar, ast.Div, ast.MatMult,
)


def all_builtins():
    """Tell the names that Python itself has."""
    return set(dir(__import__("builtins")))


def names_of(function):
    """Tell the names that a function gives values to: its parameters, its locals, and those of what it holds."""
    nodes = list(ast.walk(function))
    params = {node.arg for node in nodes if isinstance(node, ast.arg)}
    return params | {node.id for node in nodes if isinstance(node, ast.Name) and isinstance(node.ctx, ast.Store)}


def base_of(target):
    """Tell what stands leftmost in an attribute that is given a value."""
    while isinstance(target, (ast.Attribute, ast.Subscript)):
        target = target.value
    return target


def strange_attributes(tree):
    """Tell the lines in which an attribute is given a value otherwise than through a local name."""
    given = [node for node in ast.walk(tree) if isinstance(node, ast.Attribute) and isinstance(node.ctx, ast.Store)]
    local = set()
    for function in ast.walk(tree):
        if isinstance(function, ast.FunctionDef):
            names = names_of(function)
            local.update(node for node in ast.walk(function) if isinstance(node, ast.Name) and node.id in names)
    return [node.lineno for node in given if base_of(node) not in local]


class TestLanguage(unittest.TestCase):

    def each(self):
        """Tell (file, text, tree) of each file of the package."""
        return [(path, path.read_text("utf-8"), ast.parse(path.read_text("utf-8"))) for path in FILES]

    def each_node(self):
        """Tell (file with line, node) of each node of the package."""
        return [(f"{path.name}:{getattr(node, 'lineno', 0)}", node)
                for path, text, tree in self.each() for node in ast.walk(tree)]

    def test_files_of_python_alone(self):
        others = [path for path in PACKAGE.rglob("*") if path.is_file() and path.suffix != ".py"]
        self.assertEqual([path for path in others if path.parent.name != "__pycache__"], [])
        for path in FILES:
            self.assertRegex(path.name, r"\A[a-z0-9_]+\.py\Z")

    def test_sizes_and_characters(self):
        for path, text, tree in self.each():
            lines = text.split("\n")
            self.assertLessEqual(len(lines), 399, path)
            self.assertLessEqual(max(len(line) for line in lines), 120, path)
            self.assertTrue(all(sign == "\n" or " " <= sign <= "~" for sign in text), path)
            for node in ast.walk(tree):
                if isinstance(node, ast.FunctionDef):
                    self.assertLessEqual(node.end_lineno - node.lineno + 1, 40, (path, node.name))

    def test_no_warnings(self):
        for path, text, _ in self.each():
            with warnings.catch_warnings():
                warnings.simplefilter("error")
                compile(text, str(path), "exec")

    def test_imports(self):
        for where, node in self.each_node():
            if isinstance(node, ast.Import):
                self.assertTrue(where.startswith("__main__.py"), where)
            if isinstance(node, ast.ImportFrom):
                self.assertEqual(node.level, 0, where)
                self.assertIn(node.module.split(".")[0], LIBRARY + ("stemkeep",), where)
                self.assertNotIn("*", [name.name for name in node.names], where)

    def test_statements_and_expressions(self):
        for where, node in self.each_node():
            self.assertNotIsInstance(node, BARRED_NODES, where)
            if isinstance(node, ast.Constant):
                self.assertNotIsInstance(node.value, (float, complex), where)
            if isinstance(node, ast.Constant) and isinstance(node.value, str):
                self.assertFalse(any(ord(sign) < 32 and sign not in "\n\t" for sign in node.value), where)

    def test_names(self):
        strange = all_builtins() - BUILTINS
        for where, node in self.each_node():
            if isinstance(node, ast.Name):
                self.assertNotIn(node.id, strange, where)
                self.assertNotIn(node.id, BARRED_NAMES, where)
                if isinstance(node.ctx, ast.Store):
                    self.assertNotIn(node.id, all_builtins(), where)
            if isinstance(node, ast.arg):
                self.assertNotIn(node.arg, all_builtins() | BARRED_NAMES, where)
            if isinstance(node, ast.Attribute):
                self.assertNotIn(node.attr, BARRED_NAMES, where)
                if isinstance(node.ctx, ast.Store):
                    self.assertNotIn(node.attr, BARRED_ATTRIBUTES, where)

    def test_attributes_through_local_names(self):
        for path, _, tree in self.each():
            self.assertEqual(strange_attributes(tree), [], path)

    def test_strange_attributes_are_seen(self):
        for row in ("made(box).n = 1", "self.made().n = 1", "self.made().row.n = 1", "made()[0].n = 1", "Box.n = 1",
                    "TOP.n = 1", "made().n += 1", "one, made().n = 1, 2", "(1 and box).n = 1"):
            self.assertEqual(strange_attributes(ast.parse(f"def give(self, box):\n    {row}\n")), [2], row)
        self.assertEqual(strange_attributes(ast.parse("TOP = 1\nTOP.n = 1\n")), [2])
        for row in ("self.n = 1", "box.n += 1", "box.row.n = 1", "box.rows[0].n = 1", "it = made(); it.n = 1",
                    "for it in made(): it.n = 1"):
            self.assertEqual(strange_attributes(ast.parse(f"def give(self, box):\n    {row}\n")), [], row)


if __name__ == "__main__":
    unittest.main()
