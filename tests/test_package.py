"""What holds for the package as a whole: the names of the interface, sizes and signs, and the examples of README.md."""

import ast
import doctest
import importlib
import inspect
import pathlib
import re
import unittest

from keptsorted.sorter import Sorter

FOLDER = pathlib.Path(__file__).resolve().parent.parent / "keptsorted"
INTERFACE = {
    "families": {"sort_by": ["filling", "family"], "is_sorted_by": ["filling", "family"],
                 "after_row": ["filling", "row"]},
    "keeps": {"keeps": ["places", "first", "second"], "breaking": ["places", "first", "second"]},
    "rows": {"sure_pairs": ["places", "row"], "sorts": ["places", "row", "family"],
             "unsorted": ["places", "row", "family"], "are_alike": ["places", "row", "other"],
             "parting": ["places", "row", "other"], "needless": ["places", "row"]},
    "together": {"keep_one_another": ["places", "families"], "sure_together": ["places", "families"],
                 "count_orders": ["places", "families"], "count_marks": ["places", "families"],
                 "orders": ["places", "families"]},
    "tables": {"axes": ["lengths"], "snakes": ["rows", "columns"], "snake": ["rows", "columns"],
               "shear": ["rows", "columns"], "fewest_rounds": ["rows", "columns"],
               "count_tables": ["rows", "columns"], "count_marked": ["rows", "columns"]},
    "gaps": {"gap_family": ["places", "gap"], "sums": ["places", "gaps"], "gaps_of": ["filling"],
             "sweep": ["filling", "gap"], "count_sweeps": ["filling", "gap"],
             "sweeps_needed": ["places", "gaps", "gap"], "slowest": ["places", "gaps", "gap"]},
    "plans": {"sweeps_of": ["places", "plan"], "cost_of": ["places", "plan"], "sorts_all": ["places", "plan"],
              "after_plan": ["filling", "plan"], "least_cost": ["places", "gaps"], "cheapest": ["places", "gaps"]},
}
METHODS_OF_SORTER = {
    "__init__": ["filling"], "apply": ["family"], "sweep": ["gap"], "is_sorted": ["family"], "gaps": [],
    "run": ["row"], "undo": [],
}


def changed_in_place(node):
    """What an augmented assignment, extend or update changes, and what it gets; None of other nodes."""
    if isinstance(node, ast.AugAssign):
        return node.target, [node.value]
    if isinstance(node, ast.Call) and isinstance(node.func, ast.Attribute) and node.func.attr in ("extend", "update"):
        return node.func.value, node.args
    return None


def container_of(node):
    """The text of the variable, or of the attribute of self, of which a thing is a part or which it is itself."""
    while isinstance(node, (ast.Subscript, ast.Attribute)) and ast.unparse(node.value) != "self":
        node = node.value
    return ast.unparse(node)


def rows_that_get_what_they_change(text):
    """The rows of a file in which +=, |= and the like, extend or update get something of what they change."""
    found = []
    for node in ast.walk(ast.parse(text)):
        told = changed_in_place(node)
        if told is not None:
            container = container_of(told[0])
            parts = [part for thing in told[1] for part in ast.walk(thing) if isinstance(part, ast.expr)]
            if container in [ast.unparse(part) for part in parts]:
                found.append(ast.unparse(node))
    return found


class Interface(unittest.TestCase):
    def test_each_function_stands_in_its_file_with_its_parameters(self):
        for file, functions in INTERFACE.items():
            module = importlib.import_module("keptsorted." + file)
            for name, parameters in functions.items():
                function = getattr(module, name)
                self.assertEqual(function.__module__, "keptsorted." + file)
                told = inspect.signature(function).parameters.values()
                self.assertEqual([parameter.name for parameter in told], parameters)
                for parameter in told:
                    self.assertIs(parameter.kind, parameter.POSITIONAL_OR_KEYWORD)
                    self.assertIs(parameter.default, parameter.empty)

    def test_each_method_stands_in_the_class_itself_with_its_parameters(self):
        self.assertEqual(Sorter.__module__, "keptsorted.sorter")
        for name, parameters in METHODS_OF_SORTER.items():
            told = list(inspect.signature(vars(Sorter)[name]).parameters.values())[1:]
            self.assertEqual([parameter.name for parameter in told], parameters)
            for parameter in told:
                self.assertIs(parameter.kind, parameter.POSITIONAL_OR_KEYWORD)
                self.assertIs(parameter.default, parameter.empty)
        for name in ("__len__", "__iter__", "__getitem__", "__setitem__"):
            self.assertTrue(inspect.isfunction(vars(Sorter)[name]), name)
        self.assertIsInstance(vars(Sorter)["filling"], property)
        self.assertTrue(inspect.isgeneratorfunction(Sorter.run))


class Readme(unittest.TestCase):
    def test_examples(self):
        failed, tried = doctest.testfile(str(FOLDER.parent / "README.md"), module_relative=False)
        self.assertEqual(failed, 0)
        self.assertGreater(tried, 0)


class Files(unittest.TestCase):
    def files(self):
        found = sorted(path for path in FOLDER.rglob("*") if path.is_file() and "__pycache__" not in path.parts)
        self.assertTrue(found)
        return found

    def test_the_folder_holds_nothing_else(self):
        for path in self.files():
            self.assertTrue(re.fullmatch(r"[a-z_0-9]+\.py", path.name), path)

    def test_sizes_and_signs(self):
        for path in self.files():
            text = path.read_bytes().decode("ascii")
            self.assertTrue(all(sign == "\n" or " " <= sign <= "~" for sign in text), path)
            lines = text.split("\n")
            self.assertLessEqual(len(lines), 399, path)
            self.assertTrue(all(len(line) <= 120 for line in lines), path)

    def test_functions_are_small(self):
        for path in self.files():
            for node in ast.walk(ast.parse(path.read_text())):
                if isinstance(node, ast.FunctionDef):
                    self.assertLessEqual(node.end_lineno - node.lineno + 1, 40, node.name)

    def test_imports_are_of_the_package_and_of_the_library_that_is_allowed(self):
        allowed = ("heapq", "math", "itertools", "collections")
        for path in self.files():
            for node in ast.walk(ast.parse(path.read_text())):
                self.assertNotIsInstance(node, ast.Import)
                if isinstance(node, ast.ImportFrom):
                    self.assertEqual(node.level, 0)
                    self.assertTrue(node.module.startswith("keptsorted.") or node.module in allowed, node.module)

    def test_nothing_is_changed_in_place_by_a_part_of_itself(self):
        for path in self.files():
            self.assertEqual(rows_that_get_what_they_change(path.read_text()), [], path)

    def test_what_is_changed_in_place_by_a_part_of_itself_is_found(self):
        for row in ("below[place] |= below[middle]", "below[place] |= below[place]", "rows += rows",
                    "rows += [row for row in rows]", "rows.extend(rows[0])", "rows[0].extend(rows)",
                    "ways.update(ways)", "self.rows[0] += self.rows[1]", "self.rows.extend(list(self.rows))"):
            self.assertEqual(rows_that_get_what_they_change(row), [row])
        for row in ("below[following] |= mark_of(places, place)", "below[place] = below[place] | below[middle]",
                    "rows += row", "rounds += 1", "ways.update(layer)", "rows.append(rows[0])",
                    "self.rows[0] += self.values[0]"):
            self.assertEqual(rows_that_get_what_they_change(row), [])


if __name__ == "__main__":
    unittest.main()
