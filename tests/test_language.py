"""The form of the code, as far as a plain look at the package's files can tell it."""

import ast
import builtins
import os
import re
import unittest

TOP = os.path.dirname(os.path.dirname(os.path.abspath(__file__)))
PACKAGE = os.path.join(TOP, "pebbletoll")

NODES = (
    "Module Expr Assign AugAssign If While For Return Break Continue Pass Raise Try ExceptHandler FunctionDef ClassDef "
    "ImportFrom alias arguments arg Name Load Store Constant List Tuple Dict Set BinOp UnaryOp BoolOp Compare IfExp "
    "Call keyword Attribute Subscript Slice ListComp comprehension JoinedStr FormattedValue Lambda "
    "Add Sub Mult FloorDiv Mod Pow LShift RShift BitOr BitXor BitAnd Invert Not UAdd USub And Or "
    "Eq NotEq Lt LtE Gt GtE Is IsNot In NotIn"
).split()
OWN_OF_PYTHON = (
    "len range enumerate zip min max sum abs sorted reversed int str bool list tuple dict set frozenset isinstance "
    "ord repr any all divmod Exception ValueError TypeError KeyError IndexError LookupError ZeroDivisionError "
    "ArithmeticError OverflowError RuntimeError NotImplementedError AttributeError StopIteration"
).split()
METHODS = (
    "append clear copy count endswith extend find get index insert isalnum isalpha isdigit islower isspace isupper "
    "items join keys ljust lower lstrip partition pop remove replace reverse rfind rjust rpartition rsplit rstrip "
    "setdefault split splitlines startswith strip update upper values zfill bit_length"
).split()
DUNDERS = "__init__ __eq__ __repr__ __str__ __len__".split()
WORDS = (
    "type typing typing_extensions enum Enum IntEnum StrEnum Flag IntFlag Generic Protocol ABC ABCMeta namedtuple "
    "NamedTuple TypedDict TYPE_CHECKING abstractmethod"
).split()


def files():
    return sorted(name for name in os.listdir(PACKAGE) if name != "__pycache__")


def text_of(name):
    with open(os.path.join(PACKAGE, name), encoding="utf-8", newline="") as stream:
        return stream.read()


def nodes_of(name):
    return list(ast.walk(ast.parse(text_of(name))))


def bound_at_top(name):
    found = []
    for node in ast.parse(text_of(name)).body:
        if isinstance(node, (ast.FunctionDef, ast.ClassDef)):
            found.append(node.name)
        if isinstance(node, ast.Assign):
            found.append(node.targets[0].id)
    return found


def imported(name):
    return [alias.name for node in nodes_of(name) if isinstance(node, ast.ImportFrom) for alias in node.names]


def locals_of(name):
    found = [node.arg for node in nodes_of(name) if isinstance(node, ast.arg)]
    for node in nodes_of(name):
        if isinstance(node, (ast.FunctionDef, ast.Lambda)):
            found += [part.id for part in ast.walk(node) if isinstance(part, ast.Name) and isinstance(part.ctx, ast.Store)]
    return found


def methods_of_classes():
    found = []
    for name in files():
        for node in nodes_of(name):
            if isinstance(node, ast.ClassDef):
                found += [part.name for part in node.body if isinstance(part, ast.FunctionDef)]
    return found


def values_of_objects():
    """The name of each value that is given to an object."""
    found = []
    for name in files():
        for node in nodes_of(name):
            if isinstance(node, ast.Attribute) and isinstance(node.ctx, ast.Store):
                found.append(node.attr)
    return found


class Files(unittest.TestCase):
    def test_names(self):
        self.assertIn("__init__.py", files())
        for name in files():
            self.assertRegex(name, r"^(__init__|__main__|[a-z][a-z0-9_]*)\.py$")

    def test_sizes_and_signs(self):
        for name in files():
            self.assertRegex(text_of(name), r"\A[\n -~]*\Z", name)
            rows = text_of(name).split("\n")
            self.assertLessEqual(len(rows), 400, name)
            for row in rows:
                self.assertLessEqual(len(row), 120, name)
            for node in nodes_of(name):
                if isinstance(node, ast.FunctionDef):
                    self.assertLessEqual(node.end_lineno - node.lineno + 1, 40, node.name)

    def test_words(self):
        for name in files():
            for word in re.findall(r"\w+", text_of(name)):
                self.assertNotIn(word, WORDS, name)
                self.assertIsNone(re.search("dataclass|overload|contextmanager", word), name)


class Code(unittest.TestCase):
    def test_forms(self):
        for name in files():
            for node in nodes_of(name):
                self.assertIn(node.__class__.__name__, NODES, name)
                if isinstance(node, ast.Assign):
                    self.assertEqual(len(node.targets), 1, name)
                if isinstance(node, (ast.For, ast.While)):
                    self.assertEqual(node.orelse, [], name)
                if isinstance(node, ast.Try):
                    self.assertEqual(node.finalbody, [], name)
                if isinstance(node, (ast.FunctionDef, ast.ClassDef)):
                    self.assertEqual(node.decorator_list, [], name)
                if isinstance(node, ast.Constant):
                    self.assertIsInstance(node.value, (int, str, bool, type(None)), name)
                    self.assertNotIn("%", str(node.value), name)

    def test_imports(self):
        for name in files():
            for node in nodes_of(name):
                if isinstance(node, ast.ImportFrom):
                    self.assertEqual(node.level, 0, name)
                    self.assertRegex(node.module, r"^pebbletoll\.[a-z_]+$")
                    source = node.module.partition(".")[2] + ".py"
                    for alias in node.names:
                        self.assertIn(alias.name, bound_at_top(source), name)

    def test_no_two_files_draw_from_one_another(self):
        drawn = {}
        for name in files():
            modules = [node.module for node in nodes_of(name) if isinstance(node, ast.ImportFrom)]
            drawn[name] = [module.partition(".")[2] + ".py" for module in modules]
        while drawn:
            free = [name for name in drawn if not any(source in drawn for source in drawn[name])]
            self.assertNotEqual(free, [], drawn)
            for name in free:
                del drawn[name]

    def test_names_of_pythons_own(self):
        for name in files():
            for node in nodes_of(name):
                if isinstance(node, ast.Name) and hasattr(builtins, node.id):
                    self.assertIn(node.id, OWN_OF_PYTHON, name)

    def test_names_are_plain_and_bound_once(self):
        for name in files():
            tops = bound_at_top(name) + imported(name)
            self.assertEqual(len(tops), len(set(tops)), name)
            for bound in tops + locals_of(name):
                self.assertRegex(bound, r"^[A-Za-z][A-Za-z0-9_]*$")
                self.assertFalse(hasattr(builtins, bound), (name, bound))

    def test_no_local_is_called_like_a_class_or_an_import(self):
        for name in files():
            classes = [node.name for node in nodes_of(name) if isinstance(node, ast.ClassDef)]
            for bound in locals_of(name):
                self.assertNotIn(bound, classes + imported(name), name)

    def test_methods(self):
        own = DUNDERS + methods_of_classes()
        for name in files():
            for node in nodes_of(name):
                if isinstance(node, ast.Call) and isinstance(node.func, ast.Attribute):
                    self.assertIn(node.func.attr, METHODS + own, name)

    def test_no_name_is_a_method_here_and_a_value_there(self):
        self.assertEqual([name for name in values_of_objects() if name in methods_of_classes()], [])
        self.assertIn("answer", methods_of_classes())
        self.assertIn("roads", values_of_objects())

    def test_own_methods_and_values_have_names_that_pythons_own_values_have_not(self):
        taken = [name for kind in (str, int, list, tuple, dict, set, bytes) for name in dir(kind)]
        for name in methods_of_classes() + values_of_objects():
            self.assertTrue(name in DUNDERS or name not in taken, name)


if __name__ == "__main__":
    unittest.main()
