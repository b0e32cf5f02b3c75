"""The rules for the package that a look at its files can see: sizes, characters, imports, files."""

import ast
import builtins
import pathlib
import unittest

ROOT = pathlib.Path(__file__).resolve().parent.parent
PACKAGE = ROOT / "ringleast"


CALLED_BUILTINS = (
    "len range enumerate zip min max sum abs sorted reversed int str bool list tuple dict set isinstance ord repr "
    "any all divmod super ValueError ArithmeticError LookupError"
).split()
METHODS = (
    "append clear copy count endswith extend find get index insert isalnum isalpha isdigit islower isspace isupper "
    "items join keys ljust lower lstrip partition pop remove replace reverse rfind rjust rpartition rsplit rstrip "
    "setdefault split splitlines startswith strip update upper values zfill bit_length swapcase translate maketrans "
    "add discard"
).split()
BARRED = "register mro elements open input law type typing enum eval exec getattr setattr hasattr id vars dir".split()


def sources():
    return [(path.name, path.read_text(encoding="utf-8")) for path in sorted(PACKAGE.glob("*.py"))]


class Language(unittest.TestCase):
    def test_the_folder_contains_python_files_only(self):
        for path in PACKAGE.iterdir():
            self.assertTrue(path.suffix == ".py" or path.name == "__pycache__", path.name)
        self.assertTrue((PACKAGE / "__init__.py").is_file())

    def test_sizes_and_characters(self):
        for name, text in sources():
            self.assertLessEqual(len(text.split("\n")), 399, name)
            for line in text.split("\n"):
                self.assertLessEqual(len(line), 120, (name, line))
                self.assertTrue(all(" " <= sign <= "~" for sign in line), (name, line))

    def test_functions_have_at_most_forty_lines(self):
        for name, text in sources():
            for node in ast.walk(ast.parse(text)):
                if isinstance(node, ast.FunctionDef):
                    self.assertLessEqual(node.end_lineno - node.lineno + 1, 40, (name, node.name))

    def test_imports_name_the_file_that_defines(self):
        bound = {}
        for name, text in sources():
            bound["ringleast." + name[:-3]] = {
                node.name for node in ast.parse(text).body if isinstance(node, (ast.FunctionDef, ast.ClassDef))
            } | {
                target.id for node in ast.parse(text).body if isinstance(node, ast.Assign) for target in node.targets
            }
        for name, text in sources():
            for node in ast.walk(ast.parse(text)):
                self.assertNotIsInstance(node, ast.Import, name)
                if isinstance(node, ast.ImportFrom) and node.module not in ("heapq", "math", "itertools"):
                    self.assertEqual(node.level, 0, name)
                    for alias in node.names:
                        self.assertIn(alias.name, bound[node.module], name)

    def test_no_files_import_from_each_other(self):
        needs = {}
        for name, text in sources():
            needs["ringleast." + name[:-3]] = {
                node.module for node in ast.walk(ast.parse(text)) if isinstance(node, ast.ImportFrom)
            }
        while needs:
            free = [name for name in needs if not needs[name] & set(needs)]
            self.assertNotEqual(free, [], sorted(needs))
            for name in free:
                del needs[name]

    def test_builtins_and_methods(self):
        for name, text in sources():
            for node in ast.walk(ast.parse(text)):
                if isinstance(node, ast.Name) and hasattr(builtins, node.id):
                    self.assertIn(node.id, CALLED_BUILTINS, (name, node.lineno))
                if isinstance(node, ast.Call) and isinstance(node.func, ast.Attribute) and node.func.attr[0] != "_":
                    self.assertIn(node.func.attr, METHODS, (name, node.lineno))

    def test_names(self):
        for name, text in sources():
            tree = ast.parse(text)
            imports = [node for node in ast.walk(tree) if isinstance(node, ast.ImportFrom)]
            imported = {alias.name for node in imports for alias in node.names}
            bound = [node.arg for node in ast.walk(tree) if isinstance(node, ast.arg)]
            for node in ast.walk(tree):
                if isinstance(node, ast.Name) and isinstance(node.ctx, ast.Store):
                    bound.append(node.id)
                if isinstance(node, ast.FunctionDef):
                    bound.append(node.name)
            for word in bound:
                self.assertNotIn(word, imported, name)
                self.assertNotIn(word, BARRED, name)
                self.assertTrue(word.startswith("__init__") or not hasattr(builtins, word), (name, word))
                self.assertFalse(word.startswith("__") and word != "__init__", (name, word))

    def test_no_barred_statements_and_values(self):
        barred = (ast.Global, ast.AsyncFunctionDef, ast.Await, ast.Div, ast.MatMult)
        for name, text in sources():
            for node in ast.walk(ast.parse(text)):
                self.assertNotIsInstance(node, barred, (name, getattr(node, "lineno", 0)))
                if isinstance(node, ast.FunctionDef):
                    self.assertEqual(node.decorator_list, [], name)
                if isinstance(node, ast.Constant):
                    self.assertNotIsInstance(node.value, (float, complex, bytes), name)
                    self.assertNotIn("%", str(node.value), name)
                if isinstance(node, ast.Compare) and any(isinstance(op, (ast.Is, ast.IsNot)) for op in node.ops):
                    self.assertIsInstance(node.comparators[0], ast.Constant, name)


if __name__ == "__main__":
    unittest.main()
