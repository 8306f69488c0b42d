"""The package as a whole: its files, the names of its interface, and rules of the language that can be read off."""

import ast
import importlib
import inspect
import unittest
from pathlib import Path

PACKAGE = Path(__file__).resolve().parent.parent / "stalkweb"

# Each function and class of the interface but the refusals, in its file, with its arguments as the document shows them.
INTERFACE = {
    "numbers": {
        "is_field": "(field)", "is_number": "(field, number)", "made": "(field, top, bottom=1)",
        "plus": "(field, one, other)", "times": "(field, one, other)", "less": "(field, number)",
        "over": "(field, number)",
    },
    "rows": {
        "reduced": "(field, rows, width)", "rank": "(field, rows, width)", "null_base": "(field, rows, width)",
        "met": "(field, rows, width, ask)", "barred": "(field, rows, width, ask)",
    },
    "tables": {
        "lead": "(field, table, column)", "behind": "(field, table, other)", "still": "(field, room)",
        "turned_back": "(field, table)",
    },
    "kept": {"Kept": "(field, width)"},
    "webs": {
        "is_web": "(web)", "great_rows": "(web)", "width_of": "(web)", "differences": "(web, whole)",
        "agrees": "(web, whole)",
    },
    "whole": {
        "sections": "(web)", "free": "(web)", "sum_of": "(web, factors)", "factors_of": "(web, whole)",
        "count": "(web)", "numbered": "(web, number)", "number_of": "(web, whole)",
    },
    "gaps": {"bars": "(web)", "gap": "(web)", "meets": "(web, asks)", "stands_against": "(web, asks)"},
    "sayings": {"goes_on": "(web, sayings)", "against": "(web, sayings)"},
    "rings": {"pieces": "(web)", "wood": "(web)", "ring": "(web, tie)", "way": "(web, place, other)"},
    "goings": {
        "gone": "(web, place, column, steps)", "turning": "(web, place, steps)", "is_stiff": "(web)",
        "kept_columns": "(web, place)",
    },
    "parts": {
        "view": "(web, places)", "seen": "(web, places, whole)", "covers": "(web, one, other)",
        "glued": "(web, one, other, left, right)", "joining": "(web, one, other)",
    },
    "drawn": {"drawn": "(web, tie)", "drawn_back": "(web, tie, whole)", "between": "(web, tie)"},
    "nearest": {"square": "(field, whole)", "nearest": "(web, whole)"},
    "maps": {
        "is_map": "(web, other, tables, tie_tables)", "mapped": "(web, other, tables, tie_tables, whole)",
        "both": "(field, one, other)",
    },
    "book": {"Book": "(field=0)"},
    "texts": {"deed_text": "(deed)", "read_deed": "(field, text)"},
    "pages": {"page": "(book)", "read_page": "(text)"},
    "desk": {"Desk": "(field=0)"},
}
# Each method of the interface, in its file and class.
METHODS = {
    ("kept", "Kept"): {
        "put": "(self, row)", "drop": "(self, number)", "rank": "(self)", "holds": "(self, row)",
        "made_of": "(self, row)", "rows": "(self)", "twin": "(self)", "__len__": "(self)",
        "__eq__": "(self, other)", "__repr__": "(self)",
    },
    ("book", "Book"): {
        "do": "(self, deed)", "undo": "(self)", "redo": "(self)", "deeds": "(self)", "places": "(self)",
        "ties": "(self)",
        "said": "(self)", "web": "(self)", "sayings": "(self)", "free": "(self)", "gap": "(self)", "sections": "(self)",
        "goes_on": "(self)", "against": "(self)", "twin": "(self)", "__len__": "(self)", "__eq__": "(self, other)",
        "__str__": "(self)", "__repr__": "(self)",
    },
    ("desk", "Desk"): {"say": "(self, line)", "book": "(self)"},
}
LIBRARY = {"math": {"gcd"}}


def sources():
    return sorted(PACKAGE.glob("*.py"))


def trees():
    return [(path.name, ast.parse(path.read_text(encoding="utf-8"))) for path in sources()]


class Interface(unittest.TestCase):
    def test_names_and_arguments(self):
        for file, names in INTERFACE.items():
            module = importlib.import_module("stalkweb." + file)
            for name, arguments in names.items():
                with self.subTest(file=file, name=name):
                    self.assertEqual(str(inspect.signature(getattr(module, name))), arguments)

    def test_defined_in_the_file_under_which_they_are_listed(self):
        for file, names in INTERFACE.items():
            tree = ast.parse((PACKAGE / (file + ".py")).read_text(encoding="utf-8"))
            found = {part.name for part in tree.body if isinstance(part, (ast.FunctionDef, ast.ClassDef))}
            self.assertLessEqual(set(names), found)

    def test_methods_are_defined_in_their_class(self):
        for (file, kind), methods in METHODS.items():
            listed = getattr(importlib.import_module("stalkweb." + file), kind)
            for name, arguments in methods.items():
                with self.subTest(file=file, name=name):
                    self.assertIn(name, vars(listed))
                    self.assertEqual(str(inspect.signature(getattr(listed, name))), arguments)


class Files(unittest.TestCase):
    def test_the_folder_holds_plain_files_only(self):
        for path in PACKAGE.iterdir():
            if path.name != "__pycache__":
                self.assertTrue(path.is_file() and path.suffix == ".py", path.name)
                self.assertTrue(path.stem.replace("_", "").isalnum() and path.stem == path.stem.lower())
        self.assertTrue((PACKAGE / "__init__.py").is_file())

    def test_each_file_has_its_tests_beside_the_package(self):
        here = Path(__file__).resolve().parent
        for path in sources():
            if path.name != "__init__.py":
                self.assertTrue((here / ("test_" + path.name)).is_file(), path.name)

    def test_signs_and_sizes(self):
        for path in sources():
            text = path.read_text(encoding="utf-8")
            self.assertTrue(all(sign == "\n" or " " <= sign <= "~" for sign in text), path.name)
            lines = text.splitlines()
            self.assertLessEqual(len(lines), 399, path.name)
            self.assertLessEqual(max(len(line) for line in lines), 120, path.name)

    def test_functions_are_small(self):
        for name, tree in trees():
            for part in ast.walk(tree):
                if isinstance(part, ast.FunctionDef):
                    self.assertLessEqual(part.end_lineno - part.lineno + 1, 40, (name, part.name))
                    self.assertEqual(part.decorator_list, [])

    def test_imports(self):
        for name, tree in trees():
            for part in ast.walk(tree):
                self.assertNotIsInstance(part, ast.Import, name)
                if isinstance(part, ast.ImportFrom):
                    self.assertEqual(part.level, 0)
                    words = {alias.name for alias in part.names}
                    if part.module in LIBRARY:
                        self.assertLessEqual(words, LIBRARY[part.module])
                    else:
                        self.assertTrue(part.module.startswith("stalkweb."), (name, part.module))
                        self.assertTrue((PACKAGE / (part.module.split(".")[1] + ".py")).is_file())

    def test_each_name_of_a_file_means_one_thing_and_is_used(self):
        for name, tree in trees():
            imports = [part for part in tree.body if isinstance(part, ast.ImportFrom)]
            imported = {alias.name for part in imports for alias in part.names}
            defined = [part.name for part in tree.body if isinstance(part, (ast.FunctionDef, ast.ClassDef))]
            names = [part for part in ast.walk(tree) if isinstance(part, ast.Name)]
            arguments = [part.arg for part in ast.walk(tree) if isinstance(part, ast.arg)]
            assigned = {part.id for part in names if isinstance(part.ctx, ast.Store)} | set(arguments)
            self.assertEqual(assigned & (imported | set(defined)), set(), name)
            self.assertEqual(len(defined), len(set(defined) - imported), name)
            self.assertLessEqual(imported, {part.id for part in names if isinstance(part.ctx, ast.Load)}, name)

    def test_no_floats(self):
        for name, tree in trees():
            for part in ast.walk(tree):
                self.assertNotIsInstance(part, ast.Div, name)
                if isinstance(part, ast.Constant):
                    self.assertNotIsInstance(part.value, (float, complex), name)


if __name__ == "__main__":
    unittest.main()
