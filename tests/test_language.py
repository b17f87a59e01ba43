"""Rules of ../shared/LANGUAGE.md that a look at the text of the package can tell."""

import ast
import builtins
import re
import unittest
from pathlib import Path

PACKAGE = Path(__file__).resolve().parent.parent / "callsheets"
FILES = sorted(path for path in PACKAGE.rglob("*") if path.is_file() and path.parent.name != "__pycache__")
LIBRARY = ("heapq", "math", "itertools", "collections", "__future__")
BUILTINS = set(
    "len range enumerate zip min max sum abs sorted reversed int str bool list tuple dict set isinstance ord repr "
    "any all divmod object property staticmethod classmethod super iter next map getattr hasattr setattr type "
    "Exception ValueError TypeError KeyError IndexError LookupError ZeroDivisionError ArithmeticError OverflowError "
    "RuntimeError NotImplementedError AttributeError StopIteration NotImplemented".split()
)

METHODS = set(
    "append clear copy count endswith extend find get index insert isalnum isalpha isdigit islower isspace isupper items "
    "join keys ljust lower lstrip partition pop remove replace reverse rfind rjust rpartition rsplit rstrip setdefault "
    "split splitlines startswith strip update upper values zfill bit_length".split()
)


def trees():
    return [(path.name, ast.parse(path.read_text())) for path in FILES]


class LanguageTest(unittest.TestCase):
    def test_files(self):
        for path in FILES:
            self.assertTrue(re.fullmatch("[a-z0-9_]+[.]py", path.name), path)

    def test_lines_and_characters(self):
        for path in FILES:
            lines = path.read_text().split("\n")
            self.assertLessEqual(len(lines) - 1, 399, path)
            for line in lines:
                self.assertLessEqual(len(line), 120, (path, line))
                self.assertTrue(re.fullmatch("[ -~]*", line), (path, line))

    def test_length_of_functions(self):
        for name, tree in trees():
            for node in ast.walk(tree):
                if isinstance(node, ast.FunctionDef):
                    self.assertLessEqual(node.end_lineno - node.lineno + 1, 40, (name, node.name))

    def test_imports(self):
        for name, tree in trees():
            for node in ast.walk(tree):
                self.assertNotIsInstance(node, ast.Import, name)
                if isinstance(node, ast.ImportFrom):
                    self.assertEqual(node.level, 0, name)
                    self.assertTrue(node.module in LIBRARY or node.module.startswith("callsheets."), (name, node.module))

    def test_builtins(self):
        for name, tree in trees():
            for node in ast.walk(tree):
                if isinstance(node, ast.Name) and hasattr(builtins, node.id):
                    self.assertIn(node.id, BUILTINS, name)
                    self.assertIsInstance(node.ctx, ast.Load, (name, node.id))

    def test_names_of_imports_and_classes(self):
        for name, tree in trees():
            taken = [alias.name for node in tree.body if isinstance(node, ast.ImportFrom) for alias in node.names]
            taken += [node.name for node in tree.body if isinstance(node, ast.ClassDef)]
            bound = taken + [node.name for node in tree.body if isinstance(node, ast.FunctionDef)]
            bound += [node.targets[0].id for node in tree.body if isinstance(node, ast.Assign)]
            self.assertEqual(len(bound), len(set(bound)), name)
            for node in ast.walk(tree):
                if isinstance(node, ast.arg):
                    self.assertNotIn(node.arg, taken, name)
                if isinstance(node, ast.Name) and isinstance(node.ctx, ast.Store):
                    self.assertNotIn(node.id, taken, name)

    def test_imported_names_are_defined_there_and_used(self):
        defined = {}
        for name, tree in trees():
            defined[name] = [node.name for node in tree.body if isinstance(node, (ast.ClassDef, ast.FunctionDef))]
            defined[name] += [node.targets[0].id for node in tree.body if isinstance(node, ast.Assign)]
        for name, tree in trees():
            used = [node.id for node in ast.walk(tree) if isinstance(node, ast.Name)]
            for node in tree.body:
                if isinstance(node, ast.ImportFrom) and node.module.startswith("callsheets."):
                    for alias in node.names:
                        self.assertIn(alias.name, defined[node.module.split(".")[1] + ".py"], name)
                        self.assertIn(alias.name, used, name)

    def test_methods_and_attributes(self):
        methods, attributes = set(), set()
        for node in [node for _, tree in trees() for node in ast.walk(tree)]:
            if isinstance(node, ast.ClassDef):
                methods |= {part.name for part in node.body if isinstance(part, ast.FunctionDef)}
            if isinstance(node, ast.Attribute) and isinstance(node.ctx, ast.Store):
                attributes.add(node.attr)
        self.assertEqual(methods & attributes, set())
        for name, tree in trees():
            for node in ast.walk(tree):
                if isinstance(node, ast.Attribute):
                    self.assertIn(node.attr, METHODS | methods | attributes, name)

    def test_is_stands_beside_none_true_and_false(self):
        for name, tree in trees():
            for node in ast.walk(tree):
                if isinstance(node, ast.Compare):
                    for sign, right in zip(node.ops, node.comparators):
                        if isinstance(sign, (ast.Is, ast.IsNot)):
                            self.assertIn(ast.unparse(right), ("None", "True", "False"), name)

    def test_sets_are_not_kept(self):
        for name, tree in trees():
            for node in ast.walk(tree):
                for part in ast.iter_child_nodes(node):
                    is_call = isinstance(part, ast.Call) and isinstance(part.func, ast.Name) and part.func.id == "set"
                    if is_call or isinstance(part, (ast.Set, ast.SetComp)):
                        self.assertIsInstance(node, ast.Call, name)
                        self.assertIn(node.func.id, ("sorted", "len"), name)

    def test_numbers_and_strings(self):
        for name, tree in trees():
            for node in ast.walk(tree):
                self.assertNotIsInstance(node, ast.Div, name)
                if isinstance(node, ast.Constant):
                    self.assertNotIsInstance(node.value, (float, complex), name)
                    self.assertNotIn("%", str(node.value), name)


if __name__ == "__main__":
    unittest.main()
