"""Holds the package's files against the small part of Python that they keep to."""

import ast
import pathlib
import re
import unittest

PACKAGE = pathlib.Path(__file__).resolve().parent.parent / "unfoldnet"

NODES = set("""
    Module FunctionDef ClassDef Return Assign AugAssign AnnAssign For While If Raise Try ExceptHandler ImportFrom Expr
    Pass Break Continue BoolOp BinOp UnaryOp Lambda IfExp Dict List Tuple ListComp comprehension Compare Call
    FormattedValue JoinedStr Constant Attribute Subscript Slice Name Load Store And Or Add Sub Mult Mod Pow FloorDiv
    LShift RShift BitOr BitXor BitAnd Invert Not UAdd USub Eq NotEq Lt LtE Gt GtE Is IsNot In NotIn arguments arg
    keyword alias
""".split())

OWN_NAMES = set("""
    len range enumerate zip min max sum abs sorted reversed int str bool list tuple dict set frozenset isinstance ord
    repr any all divmod Exception ValueError TypeError KeyError IndexError LookupError ZeroDivisionError
    ArithmeticError OverflowError RuntimeError NotImplementedError AttributeError StopIteration
""".split())

OWN_METHODS = set("""
    append clear copy count endswith extend find get index insert isalnum isalpha isdigit islower isspace isupper items
    join keys ljust lower lstrip partition pop remove replace reverse rfind rjust rpartition rsplit rstrip setdefault
    split splitlines startswith strip update upper values zfill bit_length
""".split())

WORDS = re.compile(r"\b(type|typing|typing_extensions|enum|Enum|IntEnum|StrEnum|Flag|IntFlag|Generic|Protocol|ABC|"
                   r"ABCMeta|namedtuple|NamedTuple|TypedDict|TYPE_CHECKING|abstractmethod)\b|"
                   r"dataclass|overload|contextmanager")

UNUSED = set("""
    register mro elements open input version_info with_traceback add_note format format_map attrgetter breakpoint
    builtins compile copyright credits delattr dir eval exec exit gc getattr globals hasattr help id importlib license
    locals methodcaller os quit setattr super vars sys chr print
""".split())


def files():
    return sorted(PACKAGE.glob("**/*.py"))


def parsed():
    for file in files():
        yield file.name, ast.parse(file.read_text())


def bound_names(tree):
    """All names that a file binds, wherever."""
    names = set()
    for node in ast.walk(tree):
        if isinstance(node, (ast.FunctionDef, ast.ClassDef)):
            names.add(node.name)
        elif isinstance(node, ast.arg):
            names.add(node.arg)
        elif isinstance(node, ast.alias):
            names.add(node.asname or node.name)
        elif isinstance(node, ast.Name) and isinstance(node.ctx, ast.Store):
            names.add(node.id)
        elif isinstance(node, ast.ExceptHandler) and node.name:
            names.add(node.name)
    return names


def stored_values(tree):
    return {node.attr for node in ast.walk(tree)
            if isinstance(node, ast.Attribute) and isinstance(node.ctx, ast.Store)}


def methods(tree):
    return {node.name for kind in tree.body if isinstance(kind, ast.ClassDef)
            for node in kind.body if isinstance(node, ast.FunctionDef)}


class Language(unittest.TestCase):
    def test_only_files_of_the_program_lie_in_the_package(self):
        others = [path.name for path in PACKAGE.iterdir()
                  if path.name != "__pycache__" and not re.fullmatch(r"[a-z][a-z0-9_]*\.py|__init__\.py", path.name)]
        self.assertEqual(others, [])
        self.assertGreater(len(files()), 1)

    def test_signs_and_sizes(self):
        for file in files():
            text = file.read_text()
            self.assertIsNone(re.search(r"[^ -~\n]", text), file.name)
            rows = text.split("\n")
            self.assertLessEqual(len(rows), 400, file.name)
            self.assertLessEqual(max(map(len, rows)), 120, file.name)

    def test_words_that_stand_nowhere(self):
        for file in files():
            self.assertIsNone(WORDS.search(file.read_text()), file.name)

    def test_functions_are_small_and_plain(self):
        for name, tree in parsed():
            for node in ast.walk(tree):
                if isinstance(node, ast.FunctionDef):
                    self.assertLessEqual(node.end_lineno - node.lineno + 1, 40, (name, node.name))
                    self.assertEqual(node.decorator_list, [], (name, node.name))
                    plain = node.args
                    extra = [plain.vararg, plain.kwarg] + plain.kwonlyargs + plain.posonlyargs
                    self.assertEqual(extra, [None, None], (name, node.name))

    def test_only_allowed_forms(self):
        for name, tree in parsed():
            for node in ast.walk(tree):
                place = (name, getattr(node, "lineno", None))
                self.assertIn(type(node).__name__, NODES, place)
                if isinstance(node, ast.Assign):
                    self.assertEqual(len(node.targets), 1, place)
                elif isinstance(node, ast.ListComp):
                    self.assertEqual(len(node.generators), 1, place)
                    self.assertLessEqual(len(node.generators[0].ifs), 1, place)
                elif isinstance(node, (ast.For, ast.While)):
                    self.assertEqual(node.orelse, [], place)
                elif isinstance(node, ast.Try):
                    self.assertEqual(node.finalbody, [], place)
                elif isinstance(node, ast.Constant):
                    self.assertIn(type(node.value), (int, str, bool, type(None)), place)
                    self.assertNotIn("%", str(node.value), place)
                elif isinstance(node, ast.Compare) and isinstance(node.ops[0], (ast.Is, ast.IsNot)):
                    self.assertIsInstance(node.comparators[0], ast.Constant, place)

    def test_imports_are_the_package_s_own_and_at_the_top(self):
        for name, tree in parsed():
            found = [node for node in ast.walk(tree) if isinstance(node, ast.ImportFrom)]
            self.assertEqual([node for node in found if node not in tree.body], [], name)
            for node in found:
                self.assertEqual(node.level, 0, name)
                source = PACKAGE / (node.module.removeprefix("unfoldnet.") + ".py")
                defined = {top.name for top in ast.parse(source.read_text()).body
                           if isinstance(top, (ast.FunctionDef, ast.ClassDef))}
                self.assertEqual([alias.name for alias in node.names if alias.name not in defined], [], name)

    def test_names(self):
        for name, tree in parsed():
            bound = bound_names(tree)
            self.assertEqual(bound & (OWN_NAMES | UNUSED), set(), name)
            under = [word for word in bound | stored_values(tree) if word.startswith("_") and word != "__init__"]
            self.assertEqual(under, [], name)
            used = {node.id for node in ast.walk(tree) if isinstance(node, ast.Name)}
            self.assertEqual(used - bound - OWN_NAMES, set(), name)

    def test_methods_and_values(self):
        trees = dict(parsed())
        own = set().union(*[methods(tree) for tree in trees.values()])
        values = set().union(*[stored_values(tree) for tree in trees.values()])
        self.assertEqual(own & values, set())
        self.assertEqual(values & OWN_METHODS, set())
        for name, tree in trees.items():
            called = {node.func.attr for node in ast.walk(tree)
                      if isinstance(node, ast.Call) and isinstance(node.func, ast.Attribute)}
            self.assertEqual(called - own - OWN_METHODS, set(), name)
            attributes = {node.attr for node in ast.walk(tree) if isinstance(node, ast.Attribute)}
            self.assertEqual(attributes & UNUSED, set(), name)


if __name__ == "__main__":
    unittest.main()
