"""The package's own files keep to the part of Python that the program is written in.

These are the rules of ../shared/LANGUAGE.md that can be seen in the form of the code; each check names its rule.
"""

import ast
import builtins
import pathlib
import re
import unittest

PACKAGE = pathlib.Path(__file__).resolve().parent.parent / "earlyscribe"

FILES = sorted(path for path in PACKAGE.rglob("*") if path.is_file() and "__pycache__" not in path.parts)

NODES = set("""
Module FunctionDef ClassDef ImportFrom alias arguments arg Expr Assign AugAssign If While For Return Break Continue
Pass Raise Try ExceptHandler Constant List Tuple Dict Name Attribute Subscript Slice Call BinOp UnaryOp BoolOp Compare
IfExp ListComp comprehension JoinedStr FormattedValue Lambda Load Store Add Sub Mult FloorDiv Mod Pow BitOr BitXor
BitAnd LShift RShift Invert Not And Or USub UAdd Eq NotEq Lt LtE Gt GtE Is IsNot In NotIn keyword Set
""".split())

BUILTINS = set("""
len range enumerate zip min max sum abs sorted reversed int str bool list tuple dict set frozenset isinstance ord repr
any all divmod Exception ValueError TypeError KeyError IndexError LookupError ZeroDivisionError ArithmeticError
OverflowError RuntimeError NotImplementedError AttributeError StopIteration
""".split())

METHODS = set("""
append clear copy count endswith extend find get index insert isalnum isalpha isdigit islower isspace isupper items
join keys ljust lower lstrip partition pop remove replace reverse rfind rjust rpartition rsplit rstrip setdefault split
splitlines startswith strip update upper values zfill bit_length
""".split())

UNUSED_WORDS = re.compile(
    r"\b(type|typing|typing_extensions|enum|Enum|IntEnum|StrEnum|Flag|IntFlag|Generic|Protocol|ABC|ABCMeta|namedtuple"
    r"|NamedTuple|TypedDict|TYPE_CHECKING|abstractmethod)\b|dataclass|overload|contextmanager")

WALKED_AT_ONCE = ("zip", "enumerate", "reversed", "range", "items", "keys", "values")


def called_name(node):
    """What a call calls, by its last name."""
    if not isinstance(node, ast.Call):
        return None
    return getattr(node.func, "id", getattr(node.func, "attr", None))


def with_parents(tree):
    """All nodes of a tree, each with the one that it stands in."""
    for parent in ast.walk(tree):
        for child in ast.iter_child_nodes(parent):
            yield child, parent


def names_bound(tree):
    """The names that are given a value somewhere in a file."""
    for node in ast.walk(tree):
        if isinstance(node, (ast.FunctionDef, ast.ClassDef)):
            yield node.name
        elif isinstance(node, ast.arg):
            yield node.arg
        elif isinstance(node, ast.Name) and isinstance(node.ctx, ast.Store):
            yield node.id
        elif isinstance(node, ast.alias):
            yield node.asname or node.name
        elif isinstance(node, ast.ExceptHandler) and node.name:
            yield node.name


class Language(unittest.TestCase):

    def each_tree(self):
        for path in FILES:
            with self.subTest(path.name):
                yield path, ast.parse(path.read_text(encoding="ascii"))

    def each_node(self):
        for path, tree in self.each_tree():
            for node, parent in with_parents(tree):
                yield node, parent, f"{path.name}:{getattr(node, 'lineno', '?')}"

    def test_files(self):
        self.assertIn(PACKAGE / "__init__.py", FILES)
        for path in FILES:
            self.assertRegex(path.name, r"^([a-z][a-z0-9_]*|__init__|__main__)\.py$", "L1, L14")
            self.assertNotIn(path.stem, dir(builtins), "L14")

    def test_signs_sizes_and_words(self):
        for path in FILES:
            text = path.read_text(encoding="ascii")
            self.assertRegex(text, r"^[ -~\n]*\Z", "L14")
            self.assertLessEqual(len(text.splitlines()), 400, "L10")
            self.assertLessEqual(max(map(len, text.splitlines())), 120, "L10")
            self.assertNotRegex(text, UNUSED_WORDS, "L17")

    def test_functions(self):
        for path, tree in self.each_tree():
            for node in ast.walk(tree):
                if isinstance(node, ast.FunctionDef):
                    self.assertLessEqual(node.end_lineno - node.lineno + 1, 40, f"L10 {node.name}")
                    self.assertEqual(node.decorator_list, [], "L4")
                    self.assertIsNone(node.args.vararg or node.args.kwarg or None, "L4")
                    self.assertEqual(node.args.kwonlyargs + node.args.posonlyargs, [], "L4")

    def test_kinds_of_statements_and_expressions(self):
        for node, parent, place in self.each_node():
            self.assertIn(node.__class__.__name__, NODES, f"L6, L7 {place}")
            if isinstance(node, ast.Assign):
                self.assertEqual(len(node.targets), 1, f"L6 {place}")
                self.assertNotIsInstance(node.targets[0], (ast.Tuple, ast.List), f"L6 {place}")
            if isinstance(node, (ast.For, ast.While)):
                self.assertEqual(node.orelse, [], f"L6 {place}")
            if isinstance(node, ast.Try):
                self.assertEqual(node.finalbody, [], f"L6 {place}")
            if isinstance(node, ast.ListComp):
                self.assertEqual(len(node.generators), 1, f"L7 {place}")
                self.assertLessEqual(len(node.generators[0].ifs), 1, f"L7 {place}")
            if isinstance(node, ast.Constant):
                self.assertIsInstance(node.value, (int, str, type(None)), f"L7 {place}")
                self.assertNotIn("%", str(node.value), f"L27 {place}")

    def test_imports(self):
        for node, parent, place in self.each_node():
            if isinstance(node, ast.ImportFrom):
                self.assertIsInstance(parent, ast.Module, f"L2 {place}")
                self.assertRegex(f"{node.level} {node.module}", r"^0 earlyscribe\.[a-z_]+$", f"L2, L16 {place}")
                source = ast.parse((PACKAGE / (node.module.split(".")[1] + ".py")).read_text())
                for alias in node.names:
                    own = [x for x in source.body if not isinstance(x, ast.ImportFrom)]
                    self.assertIn(alias.name, names_bound(ast.Module(own, [])), f"L16 {place}")

    def test_names(self):
        for path, tree in self.each_tree():
            bound = set(names_bound(tree))
            for name in bound:
                self.assertTrue(name == "__init__" or re.match(r"^[A-Za-z][A-Za-z0-9_]*$", name), f"L12 {name}")
                self.assertNotIn(name, dir(builtins), "L15")
            for node in ast.walk(tree):
                if isinstance(node, ast.Name):
                    self.assertTrue(node.id in bound or node.id in BUILTINS, f"L8 {node.id}")

    def test_methods_and_values_of_objects(self):
        own = set(METHODS) | {"__init__"}
        for node, parent, place in self.each_node():
            if isinstance(node, ast.Attribute) and isinstance(node.ctx, ast.Store):
                own.add(node.attr)
            if isinstance(node, ast.FunctionDef) and isinstance(parent, ast.ClassDef):
                own.add(node.name)
        for node, parent, place in self.each_node():
            if isinstance(node, ast.Attribute):
                self.assertIn(node.attr, own, f"L25, L26 {place}")

    def test_is_stands_beside_none_and_truths(self):
        for node, parent, place in self.each_node():
            if isinstance(node, ast.Compare) and any(isinstance(op, (ast.Is, ast.IsNot)) for op in node.ops):
                for side in node.comparators:
                    self.assertIn(getattr(side, "value", 0), (None, True, False), f"L20 {place}")

    def test_what_is_walked_at_once(self):
        for node, parent, place in self.each_node():
            if called_name(node) in WALKED_AT_ONCE:
                self.assertIsInstance(parent, (ast.For, ast.comprehension, ast.Call), f"L23 {place}")

    def test_sets_are_neither_kept_nor_walked(self):
        for node, parent, place in self.each_node():
            if called_name(node) in ("set", "frozenset"):
                stands = isinstance(parent, (ast.Compare, ast.BinOp)) or called_name(parent) in ("len", "sorted")
                self.assertTrue(stands, f"L24 {place}")


if __name__ == "__main__":
    unittest.main()
