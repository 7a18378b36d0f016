"""The form of the code: the rules of the language that can be checked without running it."""

import ast
import builtins
import unittest
import warnings
from pathlib import Path

from pageshares import errors

PACKAGE = Path(__file__).resolve().parent.parent / "pageshares"
FILES = sorted(path for path in PACKAGE.rglob("*.py"))
MODULES = {"pageshares." + path.stem for path in FILES}

LIBRARY = {
    "math": {"gcd", "lcm", "isqrt", "comb", "perm", "factorial"},
    "heapq": {"heappush", "heappop", "heapify", "heapreplace", "heappushpop"},
    "itertools": {
        "product", "combinations", "permutations", "chain", "accumulate", "pairwise", "islice", "zip_longest",
    },
}
BUILTINS = set(
    "len range enumerate zip min max sum abs sorted reversed int str bool bytes list tuple dict set frozenset "
    "isinstance ord repr any all divmod pow getattr hasattr setattr iter next map super property staticmethod "
    "classmethod Exception ValueError TypeError KeyError IndexError LookupError ZeroDivisionError ArithmeticError "
    "OverflowError RuntimeError NotImplementedError AttributeError StopIteration NotImplemented".split()
)
BARRED_NODES = (
    ast.Global, ast.AsyncFunctionDef, ast.AsyncFor, ast.AsyncWith, ast.Await, ast.Div, ast.MatMult, ast.Import,
    ast.GeneratorExp,
)
BARRED_WORDS = set(
    "type typing typing_extensions enum Enum IntEnum StrEnum Flag IntFlag Generic Protocol ABC ABCMeta namedtuple "
    "NamedTuple TypedDict TYPE_CHECKING abstractmethod".split()
)
BARRED_NAMES = set(
    "register mro elements open input law version_info with_traceback add_note attrgetter breakpoint builtins compile "
    "copyright credits delattr dir eval exec exit gc globals help id importlib license locals methodcaller os quit "
    "vars sys".split()
)
DUNDERS = set(
    "__init__ __eq__ __repr__ __str__ __len__ __enter__ __exit__ __call__ __iter__ __lt__ __le__ __gt__ __ge__ "
    "__ne__ __add__ __sub__ __mul__ __neg__ __abs__ __bool__ __contains__ __getitem__ __setitem__ __iadd__".split()
)
METHODS = set(
    "append clear copy count endswith extend find get index insert isalnum isalpha isdigit islower isspace isupper "
    "items join keys ljust lower lstrip partition pop remove replace reverse rfind rjust rpartition rsplit rstrip "
    "setdefault split splitlines startswith strip update upper values zfill bit_length "
    "title capitalize swapcase casefold center expandtabs removeprefix removesuffix rindex isascii isdecimal isnumeric "
    "istitle isidentifier isprintable".split()
)
BUILTIN_VALUES = (str, int, bool, list, tuple, dict, set, bytes)


def trees():
    """The name, the text and the tree of each file."""
    for path in FILES:
        text = path.read_text(encoding="utf-8")
        yield path.name, text, ast.parse(text)


def nodes(wanted):
    """The file's name and the node, for each node of these kinds."""
    for name, _, tree in trees():
        for node in ast.walk(tree):
            if isinstance(node, wanted):
                yield f"{name}:{getattr(node, 'lineno', '')}", node


def bound_names(node):
    """The names that a node binds."""
    if isinstance(node, ast.Name):
        return [] if isinstance(node.ctx, ast.Load) else [node.id]
    if isinstance(node, ast.arg):
        return [node.arg]
    if isinstance(node, ast.ExceptHandler):
        return [node.name] if node.name else []
    return [node.name]


class TestFiles(unittest.TestCase):
    def test_the_folder_contains_python_files_only(self):
        """[L1] [L14] Only .py files with plain names."""
        found = [path for path in PACKAGE.rglob("*") if "__pycache__" not in path.parts]
        self.assertTrue(all(path.suffix == ".py" and path.stem.replace("_", "a").isalnum() for path in found))
        self.assertIn(PACKAGE / "__init__.py", found)

    def test_size_and_characters(self):
        """[L10] [L14] Lines, files and characters."""
        for name, text, _ in trees():
            lines = text.split("\n")
            self.assertLessEqual(len(lines) - 1, 399, name)
            self.assertLessEqual(max(map(len, lines)), 120, name)
            self.assertTrue(all(letter == "\n" or " " <= letter <= "~" for letter in text), name)

    def test_functions_have_at_most_40_lines(self):
        """[L10] Small functions."""
        for place, node in nodes(ast.FunctionDef):
            self.assertLessEqual(node.end_lineno - node.lineno + 1, 40, place)

    def test_no_warnings(self):
        """[L27] No line for which Python gives a warning."""
        with warnings.catch_warnings():
            warnings.simplefilter("error")
            for name, text, _ in trees():
                compile(text, name, "exec")


class TestImports(unittest.TestCase):
    def test_where_they_import_from(self):
        """[L2] [L16] Full names of the package's modules, and a few names of the library."""
        for place, node in nodes(ast.ImportFrom):
            names = {alias.name for alias in node.names}
            self.assertEqual(node.level, 0, place)
            self.assertTrue(node.module in MODULES or names <= LIBRARY.get(node.module, set()), place)
            self.assertTrue(all(alias.asname is None for alias in node.names), place)

    def test_they_name_the_file_that_defines_the_name(self):
        """[L16] No name is imported by way of a third file."""
        own = {"pageshares." + path.stem: ast.parse(path.read_text(encoding="utf-8")) for path in FILES}
        for place, node in nodes(ast.ImportFrom):
            if node.module in own:
                body = own[node.module].body
                defined = {one.name for one in body if isinstance(one, (ast.FunctionDef, ast.ClassDef))}
                defined |= {one.targets[0].id for one in body if isinstance(one, ast.Assign)}
                self.assertTrue({alias.name for alias in node.names} <= defined, place)


    def test_each_is_used(self):
        """No import is left over."""
        for name, _, tree in trees():
            imported = {alias.name for node in tree.body if isinstance(node, ast.ImportFrom) for alias in node.names}
            used = {node.id for node in ast.walk(tree) if isinstance(node, ast.Name)}
            self.assertEqual(imported - used, set(), name)


class TestStatements(unittest.TestCase):
    def test_module_level(self):
        """[L3] A docstring, imports, functions, classes and plain values."""
        allowed = (ast.Expr, ast.ImportFrom, ast.FunctionDef, ast.ClassDef, ast.Assign)
        for name, _, tree in trees():
            for node in tree.body:
                self.assertIsInstance(node, allowed, name)
                if isinstance(node, ast.Expr):
                    self.assertIsInstance(node.value, ast.Constant, name)

    def test_barred_statements_and_expressions(self):
        """[L6] [L7] No global, async, division or generator expression (Book has __eq__)."""
        self.assertEqual([place for place, _ in nodes(BARRED_NODES)], [])

    def test_constants(self):
        """[L7] [L27] No floats, and no sign of per cent in a string."""
        for place, node in nodes(ast.Constant):
            self.assertNotIsInstance(node.value, (float, complex), place)
            if isinstance(node.value, str):
                self.assertNotIn("%", node.value, place)

    def test_no_annotations(self):
        """[L21] Annotations are not used here."""
        for place, node in nodes(ast.FunctionDef):
            self.assertIs(node.returns, None, place)
        self.assertEqual([place for place, _ in nodes(ast.AnnAssign)], [])
        self.assertEqual([place for place, node in nodes(ast.arg) if node.annotation is not None], [])

    def test_decorators(self):
        """[L4] [L5] Only properties and their setters, in classes."""
        properties = {node.name for _, node in nodes(ast.FunctionDef) if node.decorator_list}
        self.assertEqual(properties, {"prices"})
        found = [ast.unparse(one) for _, node in nodes(ast.FunctionDef) for one in node.decorator_list]
        self.assertEqual(found, ["property", "prices.setter"])

    def test_handlers_name_own_errors(self):
        """[L19] Only own errors are caught here."""
        for place, node in nodes(ast.ExceptHandler):
            self.assertIn(node.type.id, vars(errors), place)

    def test_finally(self):
        """[L6] A finally assigns names to attributes, and nothing else."""
        for place, node in nodes(ast.Try):
            for line in node.finalbody:
                self.assertIsInstance(line, ast.Assign, place)
                self.assertIsInstance(line.value, ast.Name, place)
                self.assertIsInstance(line.targets[0], ast.Attribute, place)

    def test_no_assignment_with_a_sign(self):
        """[L5] A class has an in-place sign, so that `+=` and its kin are left out."""
        self.assertEqual([place for place, _ in nodes(ast.AugAssign)], [])

    def test_keyword_arguments_of_builtins(self):
        """[L22] Builtins take the keywords that are listed, and no sets are made."""
        for place, node in nodes(ast.Call):
            if isinstance(node.func, ast.Name) and node.func.id in vars(builtins) and node.keywords:
                self.assertLessEqual({one.arg for one in node.keywords}, {"default", "key", "reverse"}, place)
        self.assertEqual([place for place, _ in nodes((ast.Set, ast.SetComp))], [])

    def test_powers(self):
        """[L27] An exponent is a literal from 0 to 64."""
        for place, node in nodes(ast.BinOp):
            if isinstance(node.op, ast.Pow):
                self.assertIsInstance(node.right, ast.Constant, place)
                self.assertLessEqual(node.right.value, 64, place)


class TestNames(unittest.TestCase):
    def test_builtins(self):
        """[L8] Only the builtins that are listed are used."""
        for place, node in nodes(ast.Name):
            if node.id in vars(builtins):
                self.assertIn(node.id, BUILTINS, place)

    def test_no_name_of_a_builtin_is_bound(self):
        """[L12] [L15] [L17] No function, class, parameter or variable has the name of a builtin."""
        for place, node in nodes((ast.Name, ast.arg, ast.FunctionDef, ast.ClassDef, ast.ExceptHandler)):
            for name in bound_names(node):
                self.assertTrue(name in DUNDERS or name not in vars(builtins), place)
                self.assertNotIn(name, BARRED_NAMES, place)
                self.assertTrue(not name.startswith("__") or name in DUNDERS, place)

    def test_no_variable_has_the_name_of_an_import_or_a_class(self):
        """[L15] No parameter or variable has the name of a class or an import of its file."""
        for name, _, tree in trees():
            taken = {node.name for node in ast.walk(tree) if isinstance(node, ast.ClassDef)}
            for node in ast.walk(tree):
                if isinstance(node, ast.ImportFrom):
                    taken |= {alias.name for alias in node.names}
            for node in ast.walk(tree):
                if isinstance(node, (ast.Name, ast.arg)):
                    self.assertFalse(set(bound_names(node)) & taken, name)

    def test_generators_names(self):
        """[L23] No other function, method or variable has the name of a generator."""
        generators, others = [], []
        for _, node in nodes(ast.FunctionDef):
            yields = any(isinstance(one, (ast.Yield, ast.YieldFrom)) for one in ast.walk(node))
            (generators if yields else others).append(node.name)
        variables = [name for _, node in nodes((ast.Name, ast.arg)) for name in bound_names(node)]
        self.assertTrue({"row", "means"} <= set(generators))
        self.assertFalse(set(generators) & set(others + variables))

    def test_methods_of_builtin_values(self):
        """[L25] What is called off a value is an own method, a base's __init__ or a listed method."""
        own = {node.name for _, node in nodes(ast.FunctionDef)}
        for place, node in nodes(ast.Call):
            if isinstance(node.func, ast.Attribute):
                self.assertIn(node.func.attr, own | METHODS, place)

    def test_own_methods_and_attributes(self):
        """[L18] [L26] No name of a method or an attribute of builtin values; no name is a method and an attribute."""
        bodies = [node for _, one in nodes(ast.ClassDef) for node in one.body]
        methods = {node.name for node in bodies if isinstance(node, ast.FunctionDef)}
        attributes = {node.attr for _, node in nodes(ast.Attribute) if isinstance(node.ctx, ast.Store)}
        taken = {name for value in BUILTIN_VALUES for name in dir(value)} - DUNDERS
        self.assertEqual((methods | attributes) & taken, set())
        self.assertEqual(methods & attributes, set())

    def test_the_name_that_is_not_read(self):
        """[L12] `_` is assigned only."""
        for place, node in nodes(ast.Name):
            self.assertFalse(node.id == "_" and isinstance(node.ctx, ast.Load), place)

    def test_barred_words(self):
        """[L17] Words that stand in no code."""
        for name, _, tree in trees():
            for node in ast.walk(tree):
                words = [getattr(node, key, None) for key in ("id", "arg", "attr", "name")]
                self.assertFalse(BARRED_WORDS & {word for word in words if isinstance(word, str)}, name)


if __name__ == "__main__":
    unittest.main()
