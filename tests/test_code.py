"""The files of the package: their sizes, characters and imports, as far as they are quickly looked at."""

import ast
import builtins
import pathlib
import unittest

ROOT = pathlib.Path(__file__).resolve().parent.parent
FOLDER = ROOT / "dutyweeks"
FILES = sorted(FOLDER.glob("*.py"))

OUTSIDE = {"heapq": ("heappush", "heappop"), "math": ("gcd",), "itertools": ("product", "combinations")}

# Words that stand nowhere but in comments and docstrings, and beginnings of names that are not used.
BARRED_WORDS = ("mro", "elements", "open", "input", "law", "register", "typing", "enum", "dataclass", "eval", "exec", "globals")
BARRED_BEGINNINGS = ("_wall", "_pe_", "_dcw_", "_enum_", "_cm_", "_twin_re_", "_lay_", "_law_", "_stub_", "_sre", "_cold", "_outside",
                     "_record")
METHODS = (
    "append", "clear", "copy", "count", "endswith", "extend", "find", "get", "index", "insert", "items", "join", "keys", "pop",
    "remove", "reverse", "setdefault", "split", "startswith", "update", "values")


def trees():
    return [(file.name, ast.parse(file.read_text())) for file in FILES]


def bound_names(node):
    """The names that the node binds: functions, classes, parameters and variables."""
    if isinstance(node, (ast.FunctionDef, ast.ClassDef)):
        return [node.name]
    if isinstance(node, ast.arg):
        return [node.arg]
    if isinstance(node, ast.Name) and isinstance(node.ctx, ast.Store):
        return [node.id]
    return []


class CodeTest(unittest.TestCase):
    def test_the_folder_holds_files_of_python_alone(self):
        self.assertIn(FOLDER / "__init__.py", FILES)
        self.assertEqual([file for file in FOLDER.iterdir() if file not in FILES and file.name != "__pycache__"], [])

    def test_characters_and_sizes(self):
        for file in FILES:
            lines = file.read_text().split("\n")
            self.assertLessEqual(len(lines), 400, file.name)
            for line in lines:
                self.assertLessEqual(len(line), 120, file.name)
                self.assertTrue(all(" " <= sign <= "~" for sign in line), file.name)

    def test_functions_are_short(self):
        for name, tree in trees():
            for node in ast.walk(tree):
                if isinstance(node, ast.FunctionDef):
                    self.assertLessEqual(node.end_lineno - node.lineno + 1, 40, (name, node.name))

    def test_imports(self):
        for name, tree in trees():
            for node in ast.walk(tree):
                self.assertNotIsInstance(node, ast.Import, name)
                if isinstance(node, ast.ImportFrom) and node.module in OUTSIDE:
                    self.assertTrue(all(part.name in OUTSIDE[node.module] for part in node.names), name)
                elif isinstance(node, ast.ImportFrom):
                    self.assertTrue(node.module.startswith("dutyweeks."), name)
                    self.assertTrue((FOLDER / (node.module.partition(".")[2] + ".py")).exists(), name)

    def test_no_statement_or_value_outside_the_subset(self):
        barred = (ast.AsyncFunctionDef, ast.Await, ast.GeneratorExp, ast.Div)
        for name, tree in trees():
            for node in ast.walk(tree):
                self.assertNotIsInstance(node, barred, name)
                if isinstance(node, ast.Constant):
                    self.assertNotIsInstance(node.value, (float, complex), name)
                if isinstance(node, ast.FunctionDef):
                    self.assertEqual(node.decorator_list, [], name)

    def test_names(self):
        """No name hides a builtin, an import or a class, and none is one that is not used."""
        for name, tree in trees():
            taken = {alias.asname or alias.name for node in ast.walk(tree) if isinstance(node, ast.ImportFrom) for alias in node.names}
            taken |= {node.name for node in ast.walk(tree) if isinstance(node, ast.ClassDef)}
            for node in ast.walk(tree):
                for bound in bound_names(node):
                    self.assertNotIn(bound, dir(builtins), name)
                    self.assertNotIn(bound, BARRED_WORDS, name)
                    self.assertFalse(bound.startswith(BARRED_BEGINNINGS), (name, bound))
                    if not isinstance(node, ast.ClassDef):
                        self.assertNotIn(bound, taken, name)

    def test_names_at_module_level_are_bound_once(self):
        for name, tree in trees():
            bound = []
            for node in tree.body:
                if isinstance(node, ast.ImportFrom):
                    bound += [alias.name for alias in node.names]
                elif isinstance(node, (ast.FunctionDef, ast.ClassDef)):
                    bound.append(node.name)
                elif isinstance(node, ast.Assign):
                    bound += [target.id for target in node.targets]
                else:
                    self.assertIsInstance(node, ast.Expr, name)
            self.assertEqual(len(bound), len(set(bound)), name)

    def test_all_that_is_imported_or_private_is_used(self):
        for name, tree in trees():
            read = [node.id for node in ast.walk(tree) if isinstance(node, ast.Name)]
            for node in tree.body:
                if isinstance(node, ast.ImportFrom):
                    self.assertLessEqual({alias.name for alias in node.names}, set(read), name)
                elif isinstance(node, ast.FunctionDef) and node.name.startswith("_"):
                    self.assertIn(node.name, read, name)

    def test_methods_of_builtin_values(self):
        own = {node.name for _, tree in trees() for node in ast.walk(tree) if isinstance(node, ast.FunctionDef)}
        for name, tree in trees():
            for node in ast.walk(tree):
                if isinstance(node, ast.Call) and isinstance(node.func, ast.Attribute):
                    self.assertIn(node.func.attr, own | set(METHODS), name)

    def test_strings_and_comparisons(self):
        for name, tree in trees():
            for node in ast.walk(tree):
                if isinstance(node, ast.Constant) and isinstance(node.value, str):
                    self.assertNotIn(chr(37), node.value, name)
                if isinstance(node, ast.Compare) and any(isinstance(sign, (ast.Is, ast.IsNot)) for sign in node.ops):
                    self.assertIn(node.comparators[0].value, (None, True, False), name)


if __name__ == "__main__":
    unittest.main()
