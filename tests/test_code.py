"""The files of the package: their sizes, characters and imports, as far as they are quickly looked at."""

import ast
import pathlib
import unittest

ROOT = pathlib.Path(__file__).resolve().parent.parent
FOLDER = ROOT / "dutyweeks"
FILES = sorted(FOLDER.glob("*.py"))

OUTSIDE = {"heapq": ("heappush", "heappop"), "math": ("gcd",), "itertools": ("product", "combinations")}
TAKING_LISTS = ("any", "all", "min", "max", "sum", "sorted")


def trees():
    return [(file.name, ast.parse(file.read_text())) for file in FILES]


class CodeTest(unittest.TestCase):
    def test_the_folder_holds_files_of_python_alone(self):
        self.assertIn(FOLDER / "__init__.py", FILES)
        self.assertEqual([file for file in FOLDER.iterdir() if file not in FILES and file.name != "__pycache__"], [])

    def test_characters_and_sizes(self):
        for file in FILES:
            lines = file.read_text().split("\n")
            self.assertLessEqual(len(lines), 400, file.name)
            for line in lines:
                self.assertLessEqual(len(line), 120, file.name)
                self.assertTrue(all(" " <= sign <= "~" for sign in line), file.name)

    def test_functions_are_short(self):
        for name, tree in trees():
            for node in ast.walk(tree):
                if isinstance(node, ast.FunctionDef):
                    self.assertLessEqual(node.end_lineno - node.lineno + 1, 40, (name, node.name))

    def test_imports(self):
        for name, tree in trees():
            for node in ast.walk(tree):
                self.assertNotIsInstance(node, ast.Import, name)
                if isinstance(node, ast.ImportFrom) and node.module in OUTSIDE:
                    self.assertTrue(all(part.name in OUTSIDE[node.module] for part in node.names), name)
                elif isinstance(node, ast.ImportFrom):
                    self.assertTrue(node.module.startswith("dutyweeks."), name)
                    self.assertTrue((FOLDER / (node.module.partition(".")[2] + ".py")).exists(), name)

    def test_no_statement_or_value_outside_the_subset(self):
        barred = (ast.AsyncFunctionDef, ast.Await, ast.GeneratorExp, ast.Div)
        for name, tree in trees():
            for node in ast.walk(tree):
                self.assertNotIsInstance(node, barred, name)
                if isinstance(node, ast.Constant):
                    self.assertNotIsInstance(node.value, (float, complex), name)
                if isinstance(node, ast.FunctionDef):
                    self.assertEqual(node.decorator_list, [], name)


if __name__ == "__main__":
    unittest.main()
