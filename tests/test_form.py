"""The package's form: no clock, chance or file (promise 1), and the rules that a look at the source can tell."""

import ast
import os
import re
import unittest

PACKAGE = os.path.join(os.path.dirname(os.path.dirname(os.path.abspath(__file__))), "switchlamps")

OWN_NAMES_OF_PYTHON = set(
    "len range enumerate zip min max sum abs sorted reversed int str bool list tuple dict set frozenset isinstance "
    "ord repr any all divmod Exception ValueError TypeError KeyError IndexError LookupError ZeroDivisionError "
    "ArithmeticError OverflowError RuntimeError NotImplementedError AttributeError StopIteration".split()
)

METHODS_OF_PYTHON = set(
    "append clear copy count endswith extend find get index insert isalnum isalpha isdigit islower isspace isupper "
    "items join keys ljust lower lstrip partition pop remove replace reverse rfind rjust rpartition rsplit rstrip "
    "setdefault split splitlines startswith strip update upper values zfill bit_length".split()
)

WORDS_THAT_STAND_NOWHERE = re.compile(
    r"\b(type|typing|typing_extensions|enum|Enum|IntEnum|StrEnum|Flag|IntFlag|Generic|Protocol|ABC|ABCMeta|namedtuple|"
    r"NamedTuple|TypedDict|TYPE_CHECKING|abstractmethod)\b|dataclass|overload|contextmanager"
)

STATEMENTS_AND_VALUES = (
    ast.Module, ast.ImportFrom, ast.alias, ast.FunctionDef, ast.ClassDef, ast.arguments, ast.arg, ast.Assign,
    ast.AugAssign, ast.If, ast.While, ast.For, ast.Return, ast.Break, ast.Continue, ast.Pass, ast.Raise, ast.Try,
    ast.ExceptHandler, ast.Expr, ast.Constant, ast.List, ast.Tuple, ast.Dict, ast.Set, ast.BinOp, ast.UnaryOp,
    ast.BoolOp, ast.Compare, ast.IfExp, ast.Call, ast.keyword, ast.Attribute, ast.Subscript, ast.Slice, ast.ListComp,
    ast.comprehension, ast.JoinedStr, ast.FormattedValue, ast.Lambda, ast.Name, ast.expr_context, ast.operator,
    ast.unaryop, ast.boolop, ast.cmpop,
)


def sources():
    """Each file of the package, by its name, as text."""
    found = {}
    for name in sorted(os.listdir(PACKAGE)):
        if name != "__pycache__":
            with open(os.path.join(PACKAGE, name), encoding="utf-8", newline="") as file:
                found[name] = file.read()
    return found


def bound_names(tree):
    found = set()
    for node in ast.walk(tree):
        if isinstance(node, (ast.FunctionDef, ast.ClassDef, ast.ExceptHandler)) and node.name:
            found.add(node.name)
        elif isinstance(node, ast.arg):
            found.add(node.arg)
        elif isinstance(node, ast.alias):
            found.add(node.asname or node.name)
        elif isinstance(node, ast.Name) and isinstance(node.ctx, ast.Store):
            found.add(node.id)
    return found


def methods_and_values():
    """The names of all methods of the package's classes, and of all values that their objects are given."""
    methods, values = set(), set()
    for tree in trees():
        for node in ast.walk(tree):
            if isinstance(node, ast.ClassDef):
                methods |= {part.name for part in node.body if isinstance(part, ast.FunctionDef)}
            elif isinstance(node, ast.Attribute) and isinstance(node.ctx, ast.Store):
                values.add(node.attr)
    return methods, values


def drawn_from():
    """For each file, the files that it imports from, with the names."""
    found = {}
    for name, text in sources().items():
        rows = [node for node in ast.parse(text).body if isinstance(node, ast.ImportFrom)]
        found[name] = [(node.module.split(".")[1] + ".py", alias.name) for node in rows for alias in node.names]
    return found


def trees():
    return [ast.parse(text, name) for name, text in sources().items()]


class Form(unittest.TestCase):
    def test_the_package_holds_its_files_alone(self):
        names = list(sources())
        self.assertIn("__init__.py", names)
        for name in names:
            self.assertRegex(name, r"\A(__init__|[a-z][a-z0-9_]*)\.py\Z")

    def test_only_the_package_itself_is_imported(self):
        for tree in trees():
            for node in ast.walk(tree):
                self.assertNotIsInstance(node, ast.Import)
                if isinstance(node, ast.ImportFrom):
                    self.assertEqual(node.level, 0)
                    self.assertRegex(node.module, r"\Aswitchlamps\.[a-z_]+\Z")

    def test_each_import_is_from_the_file_that_defines_the_name(self):
        for name, drawn in drawn_from().items():
            for other, wanted in drawn:
                defined = set()
                for node in ast.parse(sources()[other]).body:
                    if not isinstance(node, ast.ImportFrom):
                        defined |= bound_names(node)
                self.assertIn(wanted, defined, (name, other))

    def test_no_two_files_draw_from_one_another(self):
        left = {name: {other for other, wanted in drawn} for name, drawn in drawn_from().items()}
        while left:
            free = [name for name, others in left.items() if not others & set(left)]
            self.assertNotEqual(free, [], left)
            for name in free:
                del left[name]

    def test_the_first_file_binds_no_name(self):
        self.assertEqual(bound_names(ast.parse(sources()["__init__.py"])), set())

    def test_no_other_methods_are_used(self):
        methods, values = methods_and_values()
        self.assertEqual(methods & values, set())
        for tree in trees():
            for node in ast.walk(tree):
                if isinstance(node, ast.Attribute):
                    self.assertIn(node.attr, METHODS_OF_PYTHON | methods | values)

    def test_words_that_stand_nowhere(self):
        for name, text in sources().items():
            self.assertIsNone(WORDS_THAT_STAND_NOWHERE.search(text), name)

    def test_is_stands_beside_none_true_and_false_alone(self):
        for tree in trees():
            for node in ast.walk(tree):
                if isinstance(node, ast.Compare) and any(isinstance(op, (ast.Is, ast.IsNot)) for op in node.ops):
                    self.assertIsInstance(node.comparators[0], ast.Constant)
                    self.assertIn(node.comparators[0].value, (None, True, False))

    def test_no_sign_that_fills_in_stands_in_a_text(self):
        for tree in trees():
            for node in ast.walk(tree):
                if isinstance(node, ast.Constant) and isinstance(node.value, str):
                    self.assertNotIn("%", node.value)

    def test_no_other_names_of_python_are_used(self):
        for tree in trees():
            bound = bound_names(tree)
            self.assertEqual(bound & OWN_NAMES_OF_PYTHON, set())
            for node in ast.walk(tree):
                if isinstance(node, ast.Name):
                    self.assertIn(node.id, bound | OWN_NAMES_OF_PYTHON)

    def test_no_name_begins_with_an_underscore(self):
        allowed = ("__init__", "__eq__", "__repr__", "__str__", "__len__")
        for tree in trees():
            used = bound_names(tree) | {node.attr for node in ast.walk(tree) if isinstance(node, ast.Attribute)}
            self.assertEqual([name for name in used if name.startswith("_") and name not in allowed], [])

    def test_only_the_small_part_of_the_language(self):
        for tree in trees():
            for node in ast.walk(tree):
                self.assertIsInstance(node, STATEMENTS_AND_VALUES)
                self.assertNotIsInstance(node, (ast.Div, ast.MatMult))
                if isinstance(node, (ast.FunctionDef, ast.ClassDef)):
                    self.assertEqual(node.decorator_list, [])
                if isinstance(node, ast.Constant):
                    self.assertNotIsInstance(node.value, (float, complex, bytes))

    def test_sizes_and_signs(self):
        for name, text in sources().items():
            with self.subTest(file=name):
                rows = text.split("\n")
                self.assertLessEqual(len(rows), 401)
                self.assertLessEqual(max(len(row) for row in rows), 120)
                self.assertRegex(text, r"\A[ -~\n]*\Z")
        for tree in trees():
            for node in ast.walk(tree):
                if isinstance(node, ast.FunctionDef):
                    self.assertLessEqual(node.end_lineno - node.lineno + 1, 40)


if __name__ == "__main__":
    unittest.main()
