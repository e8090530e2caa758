"""What holds for the files of the package as a whole: the names of the interface, and sizes and signs."""

import ast
import importlib
import inspect
import pathlib
import re
import unittest

FOLDER = pathlib.Path(__file__).resolve().parent.parent / "keptsorted"
INTERFACE = {
    "families": {"sort_by": ["filling", "family"], "is_sorted_by": ["filling", "family"],
                 "after_row": ["filling", "row"]},
    "keeps": {"keeps": ["places", "first", "second"], "breaking": ["places", "first", "second"]},
    "rows": {"sure_pairs": ["places", "row"], "sorts": ["places", "row", "family"],
             "unsorted": ["places", "row", "family"], "are_alike": ["places", "row", "other"],
             "parting": ["places", "row", "other"], "needless": ["places", "row"]},
    "together": {"keep_one_another": ["places", "families"], "sure_together": ["places", "families"],
                 "count_orders": ["places", "families"], "count_marks": ["places", "families"],
                 "orders": ["places", "families"]},
    "tables": {"axes": ["lengths"], "snakes": ["rows", "columns"], "snake": ["rows", "columns"],
               "shear": ["rows", "columns"], "fewest_rounds": ["rows", "columns"],
               "count_tables": ["rows", "columns"], "count_marked": ["rows", "columns"]},
}


class Interface(unittest.TestCase):
    def test_each_function_stands_in_its_file_with_its_parameters(self):
        for file, functions in INTERFACE.items():
            module = importlib.import_module("keptsorted." + file)
            for name, parameters in functions.items():
                function = getattr(module, name)
                self.assertEqual(function.__module__, "keptsorted." + file)
                told = inspect.signature(function).parameters.values()
                self.assertEqual([parameter.name for parameter in told], parameters)
                for parameter in told:
                    self.assertIs(parameter.kind, parameter.POSITIONAL_OR_KEYWORD)
                    self.assertIs(parameter.default, parameter.empty)


class Files(unittest.TestCase):
    def files(self):
        found = sorted(path for path in FOLDER.rglob("*") if path.is_file() and "__pycache__" not in path.parts)
        self.assertTrue(found)
        return found

    def test_the_folder_holds_nothing_else(self):
        for path in self.files():
            self.assertTrue(re.fullmatch(r"[a-z_0-9]+\.py", path.name), path)

    def test_sizes_and_signs(self):
        for path in self.files():
            text = path.read_bytes().decode("ascii")
            self.assertTrue(all(sign == "\n" or " " <= sign <= "~" for sign in text), path)
            lines = text.split("\n")
            self.assertLessEqual(len(lines), 399, path)
            self.assertTrue(all(len(line) <= 120 for line in lines), path)

    def test_functions_are_small(self):
        for path in self.files():
            for node in ast.walk(ast.parse(path.read_text())):
                if isinstance(node, ast.FunctionDef):
                    self.assertLessEqual(node.end_lineno - node.lineno + 1, 40, node.name)

    def test_imports_are_of_the_package_and_of_the_library_that_is_allowed(self):
        allowed = ("heapq", "math", "itertools", "collections")
        for path in self.files():
            for node in ast.walk(ast.parse(path.read_text())):
                self.assertNotIsInstance(node, ast.Import)
                if isinstance(node, ast.ImportFrom):
                    self.assertEqual(node.level, 0)
                    self.assertTrue(node.module.startswith("keptsorted.") or node.module in allowed, node.module)


if __name__ == "__main__":
    unittest.main()
