"""The rules for the package that a look at its files can see: sizes, characters, imports, files."""

import ast
import pathlib
import unittest

ROOT = pathlib.Path(__file__).resolve().parent.parent
PACKAGE = ROOT / "ringleast"


def sources():
    return [(path.name, path.read_text(encoding="utf-8")) for path in sorted(PACKAGE.glob("*.py"))]


class Language(unittest.TestCase):
    def test_the_folder_contains_python_files_only(self):
        for path in PACKAGE.iterdir():
            self.assertTrue(path.suffix == ".py" or path.name == "__pycache__", path.name)
        self.assertTrue((PACKAGE / "__init__.py").is_file())

    def test_sizes_and_characters(self):
        for name, text in sources():
            self.assertLessEqual(len(text.split("\n")), 399, name)
            for line in text.split("\n"):
                self.assertLessEqual(len(line), 120, (name, line))
                self.assertTrue(all(" " <= sign <= "~" for sign in line), (name, line))

    def test_functions_have_at_most_forty_lines(self):
        for name, text in sources():
            for node in ast.walk(ast.parse(text)):
                if isinstance(node, ast.FunctionDef):
                    self.assertLessEqual(node.end_lineno - node.lineno + 1, 40, (name, node.name))

    def test_imports_name_the_file_that_defines(self):
        bound = {}
        for name, text in sources():
            bound["ringleast." + name[:-3]] = {
                node.name for node in ast.parse(text).body if isinstance(node, (ast.FunctionDef, ast.ClassDef))
            } | {
                target.id for node in ast.parse(text).body if isinstance(node, ast.Assign) for target in node.targets
            }
        for name, text in sources():
            for node in ast.walk(ast.parse(text)):
                self.assertNotIsInstance(node, ast.Import, name)
                if isinstance(node, ast.ImportFrom) and node.module not in ("heapq", "math", "itertools"):
                    self.assertEqual(node.level, 0, name)
                    for alias in node.names:
                        self.assertIn(alias.name, bound[node.module], name)


if __name__ == "__main__":
    unittest.main()
