"""Some of the rules for the form of the package that a test can see; it does not see all of them."""

import ast
import builtins
import pathlib
import unittest

PACKAGE = pathlib.Path(__file__).resolve().parent.parent / "textboxes"
FILES = sorted(path for path in PACKAGE.rglob("*") if path.is_file() and "__pycache__" not in path.parts)
USED = set(
    "len range enumerate zip min max sum abs sorted reversed int str bool list tuple dict set isinstance ord repr any "
    "all divmod pow property staticmethod classmethod iter next map object super ValueError KeyError IndexError "
    "LookupError TypeError ZeroDivisionError StopIteration NotImplemented".split()
)
LIBRARY = {"heapq", "math", "itertools", "collections"}
METHODS = set(
    "append clear copy count endswith extend find get index insert isalnum isalpha isdigit islower isspace isupper items "
    "join keys ljust lower lstrip partition pop remove replace reverse rfind rjust rpartition rsplit rstrip setdefault "
    "split splitlines startswith strip update upper values zfill bit_length isascii translate maketrans".split()
)
BARRED = (ast.GeneratorExp, ast.Global, ast.AsyncFunctionDef, ast.Await, ast.Div, ast.TryStar)


def trees():
    return [(path.name, ast.parse(path.read_text(encoding="ascii"))) for path in FILES]


def nodes(*kinds):
    return [(name, node) for name, tree in trees() for node in ast.walk(tree) if isinstance(node, kinds)]


class Form(unittest.TestCase):
    def test_files(self):
        self.assertTrue(FILES)
        for path in FILES:
            self.assertRegex(path.name, r"\A(__init__|[a-z][a-z0-9_]*)\.py\Z")

    def test_characters_and_sizes(self):
        for path in FILES:
            text = path.read_text(encoding="ascii")
            self.assertTrue(all(sign == "\n" or " " <= sign <= "~" for sign in text), path.name)
            self.assertLessEqual(len(text.splitlines()), 399, path.name)
            self.assertLessEqual(max([len(line) for line in text.splitlines()]), 120, path.name)
        for name, node in nodes(ast.FunctionDef):
            self.assertLessEqual(node.end_lineno - node.lineno + 1, 40, (name, node.name))

    def test_imports(self):
        for name, node in nodes(ast.Import, ast.ImportFrom):
            self.assertIsInstance(node, ast.ImportFrom, name)
            self.assertEqual(node.level, 0, name)
            self.assertTrue(node.module.startswith("textboxes.") or node.module in LIBRARY, (name, node.module))
            self.assertNotIn("*", [part.name for part in node.names], name)

    def test_what_is_not_used(self):
        self.assertEqual([(name, node.lineno) for name, node in nodes(*BARRED)], [])
        for name, node in nodes(ast.Constant):
            self.assertNotIsInstance(node.value, (float, complex), (name, node.lineno))
            if isinstance(node.value, str):
                self.assertNotIn(chr(37), node.value, (name, node.lineno))

    def test_methods_and_attributes(self):
        own = {node.name for _, node in nodes(ast.FunctionDef)}
        stored = {node.attr for _, node in nodes(ast.Attribute) if isinstance(node.ctx, ast.Store)}
        self.assertEqual(own & stored, set())
        for name, node in nodes(ast.Attribute):
            self.assertIn(node.attr, METHODS | own | stored, (name, node.lineno))
        for name, node in nodes(ast.Call):
            if isinstance(node.func, ast.Attribute) and node.func.attr not in own:
                self.assertIn(node.func.attr, METHODS, (name, node.lineno))
                self.assertEqual(node.keywords, [], (name, node.lineno))

    def test_names_that_are_bound_once(self):
        for name, tree in trees():
            imported = [part.name for row in tree.body if isinstance(row, ast.ImportFrom) for part in row.names]
            classes = [row.name for row in tree.body if isinstance(row, ast.ClassDef)]
            for found in classes:
                self.assertRegex(found, r"\A[A-Z]", name)
            stored = [node.id for node in ast.walk(tree) if isinstance(node, ast.Name) and isinstance(node.ctx, ast.Store)]
            stored += [node.arg for node in ast.walk(tree) if isinstance(node, ast.arg)]
            self.assertEqual(set(stored) & set(imported + classes), set(), name)

    def test_properties(self):
        found = {node.name for _, node in nodes(ast.FunctionDef) if "property" in [ast.unparse(d) for d in node.decorator_list]}
        stored = {node.attr for _, node in nodes(ast.Attribute) if isinstance(node.ctx, ast.Store)}
        self.assertEqual(found & stored, set())

    def test_imports_are_used(self):
        for name, tree in trees():
            imported = {part.name for row in tree.body if isinstance(row, ast.ImportFrom) for part in row.names}
            self.assertEqual(imported - {node.id for node in ast.walk(tree) if isinstance(node, ast.Name)}, set(), name)

    def test_comparisons_powers_and_sorting(self):
        for name, node in nodes(ast.Compare):
            for sign, other in zip(node.ops, node.comparators):
                if isinstance(sign, (ast.Is, ast.IsNot)):
                    self.assertIsInstance(other, ast.Constant, (name, node.lineno))
        for name, node in nodes(ast.BinOp):
            if isinstance(node.op, ast.Pow):
                self.assertIsInstance(node.right, ast.Constant, (name, node.lineno))
        for name, node in nodes(ast.Attribute):
            self.assertNotEqual(node.attr, "sort", (name, node.lineno))
        for name, node in nodes(ast.Name):
            self.assertFalse(node.id == "_" and isinstance(node.ctx, ast.Load), (name, node.lineno))

    def test_names(self):
        for name, node in nodes(ast.Name):
            if hasattr(builtins, node.id):
                self.assertIn(node.id, USED, (name, node.lineno))
                self.assertIsInstance(node.ctx, ast.Load, (name, node.lineno))
        for name, node in nodes(ast.arg):
            self.assertFalse(hasattr(builtins, node.arg), (name, node.arg))


if __name__ == "__main__":
    unittest.main()
