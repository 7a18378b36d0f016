"""The interface: names, parameters, and the file and the class in which each name is defined."""

import ast
import inspect
import unittest
from importlib import import_module

from pageshares.books import Book
from pageshares.desk import Desk
from pageshares.extremes import SIDES

FUNCTIONS = {
    "amounts": {
        "is_fraction": ["value"], "fraction": ["value"], "added": ["one", "other"], "subtracted": ["one", "other"],
        "multiplied": ["one", "other"], "is_less": ["one", "other"],
    },
    "coming": {
        "gaps": ["book", "counts"], "come": ["book", "counts", "kind", "number"], "chances": ["book", "counts"],
        "row": ["book", "counts", "picks"],
    },
    "means": {
        "mean": ["book", "counts", "n"], "means": ["book", "counts", "n"], "value": ["book", "prices", "amounts"],
    },
    "squares": {
        "squares": ["book", "counts", "n"], "spread": ["book", "counts", "prices", "n"], "settled_spreads": ["book"],
        "spread_limit": ["book", "prices"],
    },
    "limits": {
        "shares": ["book", "counts", "n"], "ends": ["book", "counts"], "has_limit": ["book"], "limit": ["book"],
        "is_limit": ["book", "value"], "groups": ["book"], "reached": ["book", "kind"], "finals": ["book"],
        "rest": ["book", "counts", "n"],
    },
    "plain": {
        "roots": ["book"], "is_plain": ["book"], "part": ["book", "root"], "factor": ["root", "start", "n"],
        "far_mean": ["book", "counts", "n"], "still": ["book", "counts"], "leading": ["book", "counts"],
    },
    "histories": {
        "whole": ["book", "counts", "n"], "between": ["book", "counts", "m", "n", "goal"],
        "likeliest": ["book", "counts", "n"], "chance_of": ["book", "counts", "n", "goal"],
        "chance_at_least": ["book", "counts", "n", "prices", "bound"], "histories": ["book", "counts", "n", "goal"],
    },
    "holds": {
        "is_hold": ["book", "value"], "hold_matrix": ["book", "hold"], "begin": ["book", "hold"],
        "norm": ["book", "hold", "vector"], "share_bound": ["book", "counts", "hold", "kind", "start", "n"],
        "within": ["book", "counts", "hold", "kind", "start", "distance"], "simple_hold": ["book"],
    },
    "fitting": {"fitted_hold": ["book", "scale"], "is_refusal": ["book", "scale", "value"]},
    "extremes": {
        "extreme": ["book", "counts", "prices", "n"], "is_bound": ["book", "prices", "rho", "heights"],
        "bound_value": ["book", "counts", "prices", "rho", "heights", "n"], "use_rate": ["book", "prices", "uses"],
        "needs": ["book", "uses"], "cycle": ["book", "uses"],
    },
    "rates": {"rate": ["book", "prices"]},
    "compared": {
        "same_means": ["one", "other"], "same_chances": ["one", "other"],
        "difference": ["one", "x", "other", "y", "prices", "n"],
        "numerator": ["one", "x", "other", "y", "prices", "n"],
        "never_above": ["one", "x", "other", "y", "prices"], "is_never": ["one", "x", "other", "y", "prices", "n"],
    },
    "texts": {
        "show_book": ["book"], "show_standing": ["book", "counts"], "show_hold": ["book", "hold"],
        "read_book": ["text"], "read_standing": ["book", "text"], "read_hold": ["book", "text"],
    },
}
# What is passed by name only, and its default.
NAMED = {"extreme": [("side", "most")], "is_bound": [("side", "most")], "bound_value": [("side", "most")],
         "rate": [("side", "most")]}
METHODS = {
    "__init__": ["self", "weights", "rules"], "weights": ["self"], "is_sure": ["self"],
    "mean_outcome": ["self", "kind"], "matrix": ["self"], "with_lottery": ["self", "kind", "lottery"],
    "renamed": ["self", "order"], "__len__": ["self"], "__getitem__": ["self", "at"], "__eq__": ["self", "other"],
    "__ne__": ["self", "other"],
}
DESK_METHODS = {
    "__init__": ["self", "book", "counts"], "come": ["self", "kind"], "run": ["self", "picks"],
    "__iadd__": ["self", "other"], "__setitem__": ["self", "at", "worth"], "__getitem__": ["self", "at"],
    "__contains__": ["self", "x"], "__len__": ["self"], "set_rule": ["self", "kind", "lottery"],
    "set_prices": ["self", "prices"], "set_mark": ["self"], "undo": ["self"], "redo": ["self"], "log": ["self"],
    "book": ["self"], "standing": ["self"], "marked": ["self"], "gaps": ["self"], "worth": ["self"],
    "ahead": ["self", "n"], "room": ["self", "n"], "since": ["self"], "surplus": ["self"], "trial": ["self", "work"],
}
DESK_DEFAULTS = {"come": [("number", 0)], "undo": [("many", 1)], "redo": [("many", 1)]}


def parameters(call):
    """The names of the parameters without a default, each of which may be passed by position and by name."""
    found = inspect.signature(call).parameters.values()
    return [one.name for one in found if one.kind == one.POSITIONAL_OR_KEYWORD and one.default is one.empty]


def defaults(call, kind):
    """The names and the values of the parameters of this kind that have a default."""
    found = inspect.signature(call).parameters.values()
    return [(one.name, one.default) for one in found if one.kind == kind and one.default is not one.empty]


BY_NAME = inspect.Parameter.KEYWORD_ONLY
BY_BOTH = inspect.Parameter.POSITIONAL_OR_KEYWORD


class TestInterface(unittest.TestCase):
    def test_functions(self):
        """Each function is defined in its file, with the parameters that are listed."""
        for file, functions in FUNCTIONS.items():
            module = import_module("pageshares." + file)
            tree = ast.parse(inspect.getsource(module))
            defined = [node.name for node in tree.body if isinstance(node, ast.FunctionDef)]
            for name, names in functions.items():
                with self.subTest(name):
                    call = getattr(module, name)
                    self.assertIn(name, defined)
                    self.assertEqual(parameters(call), names)
                    self.assertEqual([defaults(call, BY_NAME), defaults(call, BY_BOTH)], [NAMED.get(name, []), []])
                    self.assertEqual(len(inspect.signature(call).parameters), len(names) + len(NAMED.get(name, [])))

    def test_generators(self):
        """[4.5] [5.3] row and means yield, the other functions return."""
        found = []
        for file, functions in FUNCTIONS.items():
            module = import_module("pageshares." + file)
            found.extend(name for name in functions if inspect.isgeneratorfunction(getattr(module, name)))
        self.assertEqual(found, ["row", "means"])

    def test_book(self):
        """Each method that is listed stands in the class itself."""
        self.assertEqual(Book.__module__, "pageshares.books")
        for name, names in METHODS.items():
            with self.subTest(name):
                self.assertIn(name, vars(Book))
                self.assertEqual(parameters(vars(Book)[name]), names)

    def test_desk(self):
        """Each method of the desk that is listed stands in the class itself, and `prices` is a property."""
        self.assertEqual(Desk.__module__, "pageshares.desk")
        for name, names in DESK_METHODS.items():
            with self.subTest(name):
                self.assertIn(name, vars(Desk))
                self.assertEqual(parameters(vars(Desk)[name]), names)
                self.assertEqual(defaults(vars(Desk)[name], BY_BOTH), DESK_DEFAULTS.get(name, []))
        self.assertEqual(defaults(Desk.__init__, BY_NAME), [("prices", None)])
        self.assertIsInstance(vars(Desk)["prices"], property)
        self.assertIsNot(vars(Desk)["prices"].fset, None)

    def test_sides(self):
        """[11.1] The tuple of the two strings."""
        self.assertEqual(SIDES, ("most", "fewest"))

    def test_book_by_name(self):
        """Parameters may be passed by name."""
        rules = [[(1, [0, 1])], [(1, [2, 0])]]
        self.assertEqual(Book(rules=rules, weights=[2, 3]), Book([2, 3], rules))


if __name__ == "__main__":
    unittest.main()
