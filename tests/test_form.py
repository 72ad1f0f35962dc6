"""The package keeps to the part of Python told by LANGUAGE.md, as far as a short look can see."""

import ast
import re
import unittest
from pathlib import Path

PACKAGE = Path(__file__).resolve().parent.parent / "quiethall"

# L6, L7: what a file's tree may hold; whatever is not here is sent back.
KINDS = """
Module Import ImportFrom alias FunctionDef arguments arg ClassDef Lambda
Assign AugAssign If While For Return Break Continue Pass Raise Try ExceptHandler Expr
Constant List Tuple Dict Set BinOp UnaryOp BoolOp Compare IfExp Call keyword Attribute Subscript Slice
ListComp comprehension JoinedStr FormattedValue Name Load Store
Add Sub Mult FloorDiv Mod Pow LShift RShift BitOr BitXor BitAnd Invert USub UAdd Not And Or
Eq NotEq Lt LtE Gt GtE Is IsNot In NotIn
""".split()

# L17: words that stand nowhere in a file.
WORDS = re.compile(
    r"\b(type|typing|typing_extensions|enum|Enum|IntEnum|StrEnum|Flag|IntFlag|Generic|Protocol|ABC|ABCMeta"
    r"|namedtuple|NamedTuple|TypedDict|TYPE_CHECKING|abstractmethod)\b|dataclass|overload|contextmanager"
)

# L8 and L17: built-in names that are free to use.
BUILT_IN = """
len range enumerate zip min max sum abs sorted reversed int str bool list tuple dict set frozenset isinstance
ord repr any all divmod Exception ValueError TypeError KeyError IndexError LookupError ZeroDivisionError
ArithmeticError OverflowError RuntimeError NotImplementedError AttributeError StopIteration
""".split()

# L17: names that are not used.
NOT_USED = """
register mro elements open input version_info with_traceback add_note attrgetter breakpoint builtins compile copyright
credits delattr dir eval exec exit gc getattr globals hasattr help id importlib license locals methodcaller os quit
setattr super type vars sys __name__ format format_map
""".split()

# L25: the methods of Python's own values.
METHODS = """
append clear copy count endswith extend find get index insert isalnum isalpha isdigit islower isspace isupper items join
keys ljust lower lstrip partition pop remove replace reverse rfind rjust rpartition rsplit rstrip setdefault split
splitlines startswith strip update upper values zfill bit_length
""".split()

# L26: what an own value or method may not be called, as Python's own values have it.
TAKEN = {name for kind in (str, int, list, tuple, dict, set, bytes) for name in dir(kind)}


def files():
    return sorted(path for path in PACKAGE.rglob("*") if path.is_file() and "__pycache__" not in path.parts)


def texts():
    return [(path.name, path.read_text(encoding="utf-8")) for path in files()]


def nodes():
    return [(name, node) for name, text in texts() for node in ast.walk(ast.parse(text))]


def defs_of(kind):
    return [node for name, node in nodes() if isinstance(node, kind)]


def own_methods():
    return [body.name for node in defs_of(ast.ClassDef) for body in node.body if isinstance(body, ast.FunctionDef)]


def own_values():
    """The names that objects are given values under."""
    return {node.attr for node in defs_of(ast.Attribute) if isinstance(node.ctx, ast.Store)}


class FormTest(unittest.TestCase):
    def test_files_have_plain_names(self):
        self.assertIn(PACKAGE / "__init__.py", files())
        for path in files():
            self.assertRegex(path.name, r"^[a-z0-9_]+\.py$")

    def test_signs_and_sizes(self):
        for name, text in texts():
            self.assertRegex(text, r"^[ -~\n]*\Z", name)
            rows = text.split("\n")
            self.assertLessEqual(len(rows), 400, name)
            self.assertLessEqual(max(len(row) for row in rows), 120, name)

    def test_functions_are_short(self):
        for name, node in nodes():
            if isinstance(node, ast.FunctionDef):
                self.assertLessEqual(node.end_lineno - node.lineno + 1, 40, (name, node.name))

    def test_words_that_stand_nowhere(self):
        for name, text in texts():
            self.assertIsNone(WORDS.search(text), name)

    def test_statements_and_expressions(self):
        for name, node in nodes():
            self.assertIn(type(node).__name__, KINDS, (name, getattr(node, "lineno", 0)))

    def test_imports_are_the_packages_own(self):
        for name, node in nodes():
            self.assertNotIsInstance(node, ast.Import, name)
            if isinstance(node, ast.ImportFrom):
                self.assertEqual(node.level, 0, name)
                self.assertRegex(node.module, r"^quiethall\.", name)

    def test_no_decorators_and_no_stars(self):
        for name, node in nodes():
            self.assertFalse(getattr(node, "decorator_list", []), name)
            if isinstance(node, ast.arguments):
                self.assertFalse(node.vararg or node.kwarg or node.kwonlyargs or node.posonlyargs, name)

    def test_built_in_names(self):
        known = dir(__import__("builtins"))
        for name, node in nodes():
            if isinstance(node, ast.Name) and node.id in known:
                self.assertIn(node.id, BUILT_IN, (name, node.lineno))
                self.assertIsInstance(node.ctx, ast.Load, (name, node.lineno))
            if isinstance(node, ast.arg):
                self.assertNotIn(node.arg, known, (name, node.lineno))

    def test_only_whole_numbers_and_texts_are_written(self):
        for name, node in nodes():
            if isinstance(node, ast.Constant):
                self.assertIsInstance(node.value, (int, str, type(None)), (name, node.lineno))

    def test_is_stands_beside_none_true_and_false(self):
        for name, node in nodes():
            if isinstance(node, ast.Compare) and any(isinstance(op, (ast.Is, ast.IsNot)) for op in node.ops):
                sides = [node.left] + node.comparators
                written = [side.value for side in sides if isinstance(side, ast.Constant)]
                self.assertTrue(any(value in (None, True, False) for value in written), (name, node.lineno))

    def test_the_top_of_a_module(self):
        for name, text in texts():
            for node in ast.parse(text).body[1:]:
                self.assertIsInstance(node, (ast.ImportFrom, ast.FunctionDef, ast.ClassDef, ast.Assign), name)
            self.assertIsNotNone(ast.get_docstring(ast.parse(text)), name)

    def test_names_are_plain_and_free(self):
        for name, node in nodes():
            for word in (getattr(node, key, None) for key in ("id", "attr", "arg", "name")):
                if isinstance(word, str) and word != "__init__":
                    self.assertRegex(word, r"^[A-Za-z][A-Za-z0-9_]*$", name)
                    self.assertNotIn(word, NOT_USED, name)

    def test_classes_hold_methods_alone(self):
        for node in defs_of(ast.ClassDef):
            self.assertLessEqual(len(node.bases), 1, node.name)
            names = [body.name for body in node.body if not isinstance(body, ast.Pass)]
            self.assertEqual(len(names), len(set(names)), node.name)

    def test_no_name_is_a_method_here_and_a_value_there(self):
        self.assertEqual(own_values() & set(own_methods()), set())

    def test_own_methods_and_values_are_not_called_like_pythons_own(self):
        self.assertEqual((set(own_methods()) | own_values()) & TAKEN - {"__init__"}, set())

    def test_methods_that_are_called(self):
        for node in defs_of(ast.Call):
            if isinstance(node.func, ast.Attribute):
                self.assertIn(node.func.attr, METHODS + own_methods(), node.lineno)

    def test_no_local_is_called_like_a_class_or_an_import(self):
        for name, text in texts():
            tree = ast.parse(text)
            named = {node.name for node in ast.walk(tree) if isinstance(node, (ast.ClassDef, ast.alias))}
            for node in ast.walk(tree):
                local = getattr(node, "arg", None) or (isinstance(node, ast.Name) and isinstance(node.ctx, ast.Store)
                                                       and node.id)
                self.assertNotIn(local, named, name)

    def test_one_target_and_no_else_behind_a_loop(self):
        for name, node in nodes():
            if isinstance(node, ast.Assign):
                self.assertEqual(len(node.targets), 1, (name, node.lineno))
            if isinstance(node, (ast.For, ast.While)):
                self.assertEqual(node.orelse, [], (name, node.lineno))

    def test_no_powers_and_no_signs_of_parts_in_texts(self):
        for name, node in nodes():
            self.assertNotIsInstance(node, ast.Pow, name)
            if isinstance(node, ast.Constant) and isinstance(node.value, str):
                self.assertNotIn("%", node.value, name)


if __name__ == "__main__":
    unittest.main()
