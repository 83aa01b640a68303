"""The interface as it is written, and the limits of form that can be measured."""

import ast
import unittest
from pathlib import Path

PACKAGE = Path(__file__).resolve().parent.parent / "rightfares"

# The interface: for each file its functions, and its classes by their __init__; for each class its methods.
INTERFACE = {
    "errors.py": {"RightfaresError": ["reason"]},
    "alignments.py": {
        "is_sequence": ["thing"], "is_alignment": ["thing"], "sequences_of": ["alignment"],
        "comes_before": ["one", "two"], "text_of": ["alignment"], "read_alignment": ["text"],
        "number_of_alignments": ["first", "second"],
    },
    "schemes.py": {
        "Scheme": ["groups", "gaps", "sides"], "size": ["scheme"], "counts_of": ["scheme", "alignment"],
        "cost_of": ["scheme", "alignment", "costs"],
    },
    "best.py": {
        "least_cost": ["scheme", "first", "second", "costs"], "count_best": ["scheme", "first", "second", "costs"],
        "best_at": ["scheme", "first", "second", "costs", "index"], "index_of": ["scheme", "alignment", "costs"],
        "certain_matches": ["scheme", "first", "second", "costs"],
        "possible_matches": ["scheme", "first", "second", "costs"],
    },
    "tables.py": {
        "table_of": ["scheme", "first", "second", "costs"],
        "is_right": ["scheme", "first", "second", "costs", "table"], "bound_of": ["table"],
    },
    "counted.py": {
        "possible_counts": ["scheme", "first", "second"], "minimal_counts": ["scheme", "first", "second"],
        "count_with": ["scheme", "first", "second", "counts"], "first_with": ["scheme", "first", "second", "counts"],
    },
    "cones.py": {
        "rays_of_counts": ["scheme", "first", "second", "counts"], "rays_of_examples": ["scheme", "examples"],
        "inner_costs": ["rays"], "is_combination": ["rays", "costs"],
    },
    "examples.py": {
        "explanation": ["scheme", "examples"], "is_explanation": ["scheme", "examples", "told"],
        "refutation": ["scheme", "examples"], "is_refutation": ["scheme", "examples", "rivals"],
        "largest_explained": ["scheme", "examples"],
    },
    "foretold.py": {
        "best_for_some": ["scheme", "examples", "first", "second"],
        "certain_for_all": ["scheme", "examples", "first", "second"],
        "possible_for_some": ["scheme", "examples", "first", "second"],
    },
    "lines.py": {"turns": ["scheme", "first", "second", "start", "end"]},
    "fittings.py": {"Fitting": ["scheme"]},
}
METHODS = {
    "Fitting": {
        "examples": [], "rays": [], "costs": [], "is_refuted": [], "add": ["alignment"], "undo": [], "copy": [],
    },
}
LIBRARY = {"heapq", "math", "itertools", "collections", "__future__"}


def tree_of(path):
    return ast.parse(path.read_text(encoding="utf-8"))


def arguments_of(node):
    """The names of the arguments of a function, or of those of a class's __init__ behind self."""
    if isinstance(node, ast.ClassDef):
        [init] = [part for part in node.body if isinstance(part, ast.FunctionDef) and part.name == "__init__"]
        return arguments_of(init)[1:]
    return [argument.arg for argument in node.args.args]


class TestInterface(unittest.TestCase):
    def test_each_name_is_defined_in_its_file(self):
        for name, wanted in INTERFACE.items():
            found = {node.name: node for node in tree_of(PACKAGE / name).body
                     if isinstance(node, (ast.FunctionDef, ast.ClassDef))}
            for word, arguments in wanted.items():
                self.assertIn(word, found, name)
                self.assertEqual(arguments_of(found[word]), arguments, word)
                self.assert_methods(found[word], METHODS.get(word, {}))

    def assert_methods(self, node, wanted):
        """Each method stands in the class itself."""
        methods = {part.name: part for part in node.body if isinstance(part, ast.FunctionDef)}
        for word, arguments in wanted.items():
            self.assertIn(word, methods, node.name)
            self.assertEqual(arguments_of(methods[word]), ["self"] + arguments, word)


class TestForm(unittest.TestCase):
    def files(self):
        return sorted(path for path in PACKAGE.rglob("*") if "__pycache__" not in path.parts)

    def test_only_sources(self):
        self.assertIn(PACKAGE / "__init__.py", self.files())
        for path in self.files():
            self.assertTrue(path.is_file() and path.suffix == ".py", path)

    def test_lines_and_characters(self):
        for path in self.files():
            lines = path.read_text(encoding="utf-8").split("\n")
            self.assertLessEqual(len(lines), 400, path)
            for line in lines:
                self.assertLessEqual(len(line), 120, (path, line))
                self.assertTrue(all(" " <= sign <= "~" for sign in line), (path, line))

    def test_functions_are_small(self):
        for path in self.files():
            for node in ast.walk(tree_of(path)):
                if isinstance(node, ast.FunctionDef):
                    self.assertLessEqual(node.end_lineno - node.lineno + 1, 40, (path, node.name))

    def test_imports_nothing_from_outside(self):
        for path in self.files():
            for node in ast.walk(tree_of(path)):
                self.assertNotIsInstance(node, ast.Import, path)
                if isinstance(node, ast.ImportFrom):
                    self.assertEqual(node.level, 0, path)
                    self.assertIn(node.module.split(".")[0], LIBRARY | {"rightfares"}, path)

    def test_no_floats(self):
        for path in self.files():
            for node in ast.walk(tree_of(path)):
                self.assertNotIsInstance(node, ast.Div, path)
                if isinstance(node, ast.Constant):
                    self.assertNotIsInstance(node.value, (float, complex), path)


if __name__ == "__main__":
    unittest.main()
