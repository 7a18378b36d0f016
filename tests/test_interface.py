"""The interface: names, parameters, and the file and the class in which each name is defined."""

import ast
import inspect
import unittest
from importlib import import_module

from pageshares.books import Book

FUNCTIONS = {
    "amounts": {
        "is_fraction": ["value"], "fraction": ["value"], "added": ["one", "other"], "subtracted": ["one", "other"],
        "multiplied": ["one", "other"], "is_less": ["one", "other"],
    },
    "coming": {
        "gaps": ["book", "counts"], "come": ["book", "counts", "kind", "number"], "chances": ["book", "counts"],
        "row": ["book", "counts", "picks"],
    },
    "means": {
        "mean": ["book", "counts", "n"], "means": ["book", "counts", "n"], "value": ["book", "prices", "amounts"],
    },
    "squares": {
        "squares": ["book", "counts", "n"], "spread": ["book", "counts", "prices", "n"], "settled_spreads": ["book"],
        "spread_limit": ["book", "prices"],
    },
    "limits": {
        "shares": ["book", "counts", "n"], "ends": ["book", "counts"], "has_limit": ["book"], "limit": ["book"],
        "is_limit": ["book", "value"], "groups": ["book"], "reached": ["book", "kind"], "finals": ["book"],
        "rest": ["book", "counts", "n"],
    },
    "plain": {
        "roots": ["book"], "is_plain": ["book"], "part": ["book", "root"], "factor": ["root", "start", "n"],
        "far_mean": ["book", "counts", "n"], "still": ["book", "counts"], "leading": ["book", "counts"],
    },
}
METHODS = {
    "__init__": ["self", "weights", "rules"], "weights": ["self"], "is_sure": ["self"],
    "mean_outcome": ["self", "kind"], "matrix": ["self"], "with_lottery": ["self", "kind", "lottery"],
    "renamed": ["self", "order"], "__len__": ["self"], "__getitem__": ["self", "at"], "__eq__": ["self", "other"],
    "__ne__": ["self", "other"],
}


def parameters(call):
    """The names of the parameters, each of which may be passed by position and by name."""
    found = inspect.signature(call).parameters.values()
    return [one.name for one in found if one.kind == one.POSITIONAL_OR_KEYWORD and one.default is one.empty]


class TestInterface(unittest.TestCase):
    def test_functions(self):
        """Each function is defined in its file, with the parameters that are listed."""
        for file, functions in FUNCTIONS.items():
            module = import_module("pageshares." + file)
            tree = ast.parse(inspect.getsource(module))
            defined = [node.name for node in tree.body if isinstance(node, ast.FunctionDef)]
            for name, names in functions.items():
                with self.subTest(name):
                    self.assertIn(name, defined)
                    self.assertEqual(parameters(getattr(module, name)), names)

    def test_generators(self):
        """[4.5] [5.3] row and means yield, the other functions return."""
        found = []
        for file, functions in FUNCTIONS.items():
            module = import_module("pageshares." + file)
            found.extend(name for name in functions if inspect.isgeneratorfunction(getattr(module, name)))
        self.assertEqual(found, ["row", "means"])

    def test_book(self):
        """Each method that is listed stands in the class itself."""
        self.assertEqual(Book.__module__, "pageshares.books")
        for name, names in METHODS.items():
            with self.subTest(name):
                self.assertIn(name, vars(Book))
                self.assertEqual(parameters(vars(Book)[name]), names)

    def test_book_by_name(self):
        """Parameters may be passed by name."""
        rules = [[(1, [0, 1])], [(1, [2, 0])]]
        self.assertEqual(Book(rules=rules, weights=[2, 3]), Book([2, 3], rules))


if __name__ == "__main__":
    unittest.main()
