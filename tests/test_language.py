"""Holds the package's files against the small part of Python that they keep to."""

import ast
import builtins
import pathlib
import re
import unittest

PACKAGE = pathlib.Path(__file__).resolve().parent.parent / "unfoldnet"

NODES = set("""
    Module FunctionDef ClassDef Return Assign AugAssign AnnAssign For While If Raise Try ExceptHandler ImportFrom Expr
    Pass Break Continue BoolOp BinOp UnaryOp Lambda IfExp Dict List Tuple ListComp comprehension Compare Call
    FormattedValue JoinedStr Constant Attribute Subscript Slice Name Load Store And Or Add Sub Mult Mod Pow FloorDiv
    LShift RShift BitOr BitXor BitAnd Invert Not UAdd USub Eq NotEq Lt LtE Gt GtE Is IsNot In NotIn arguments arg
    keyword alias
""".split())

OWN_NAMES = set("""
    len range enumerate zip min max sum abs sorted reversed int str bool list tuple dict set frozenset isinstance ord
    repr any all divmod Exception ValueError TypeError KeyError IndexError LookupError ZeroDivisionError
    ArithmeticError OverflowError RuntimeError NotImplementedError AttributeError StopIteration
""".split())

OWN_METHODS = set("""
    append clear copy count endswith extend find get index insert isalnum isalpha isdigit islower isspace isupper items
    join keys ljust lower lstrip partition pop remove replace reverse rfind rjust rpartition rsplit rstrip setdefault
    split splitlines startswith strip update upper values zfill bit_length
""".split())

WORDS = re.compile(r"\b(type|typing|typing_extensions|enum|Enum|IntEnum|StrEnum|Flag|IntFlag|Generic|Protocol|ABC|"
                   r"ABCMeta|namedtuple|NamedTuple|TypedDict|TYPE_CHECKING|abstractmethod)\b|"
                   r"dataclass|overload|contextmanager")

UNUSED = set("""
    register mro elements open input version_info with_traceback add_note format format_map attrgetter breakpoint
    builtins compile copyright credits delattr dir eval exec exit gc getattr globals hasattr help id importlib license
    locals methodcaller os quit setattr super vars sys chr print
""".split())

# Where something that is walked at once may stand as the first thing, and the keywords that Python's own may have.
WALKERS = set("list tuple dict sorted sum any all enumerate zip min max".split())
KEYWORDS = {"sorted": {"key", "reverse"}, "min": {"key", "default"}, "max": {"key", "default"}, "sum": {"start"},
            "enumerate": {"start"}, "zip": {"strict"}}


def files():
    return sorted(PACKAGE.glob("**/*.py"))


def parsed():
    for file in files():
        yield file.name, ast.parse(file.read_text())


def bound_names(tree):
    """All names that a file binds, wherever."""
    names = set()
    for node in ast.walk(tree):
        if isinstance(node, (ast.FunctionDef, ast.ClassDef)):
            names.add(node.name)
        elif isinstance(node, ast.arg):
            names.add(node.arg)
        elif isinstance(node, ast.alias):
            names.add(node.asname or node.name)
        elif isinstance(node, ast.Name) and isinstance(node.ctx, ast.Store):
            names.add(node.id)
        elif isinstance(node, ast.ExceptHandler) and node.name:
            names.add(node.name)
    return names


def stored_values(tree):
    return {node.attr for node in ast.walk(tree)
            if isinstance(node, ast.Attribute) and isinstance(node.ctx, ast.Store)}


def methods(tree):
    return {node.name for kind in tree.body if isinstance(kind, ast.ClassDef)
            for node in kind.body if isinstance(node, ast.FunctionDef)}


def parents(tree):
    """For each node the one around it."""
    return {child: node for node in ast.walk(tree) for child in ast.iter_child_nodes(node)}


def top_names(tree):
    """All names that a file binds at its top, each as often as it does."""
    names = []
    for node in tree.body:
        if isinstance(node, (ast.FunctionDef, ast.ClassDef)):
            names.append(node.name)
        elif isinstance(node, ast.ImportFrom):
            names.extend(alias.asname or alias.name for alias in node.names)
        elif isinstance(node, ast.Assign):
            names.append(node.targets[0].id)
    return names


def local_names(tree):
    """All names of parameters and locals."""
    tops = [target for node in tree.body if isinstance(node, ast.Assign) for target in node.targets]
    stored = [node for node in ast.walk(tree) if isinstance(node, ast.Name) and isinstance(node.ctx, ast.Store)]
    return ({node.arg for node in ast.walk(tree) if isinstance(node, ast.arg)}
            | {node.id for node in stored if node not in tops})


def callee(node):
    """The name that a call calls, or the name of its method; None of what is no call."""
    if not isinstance(node, ast.Call):
        return None
    return node.func.id if isinstance(node.func, ast.Name) else node.func.attr


def drawn_from(tree):
    return {node.module for node in tree.body if isinstance(node, ast.ImportFrom)}


class Language(unittest.TestCase):
    def test_only_files_of_the_program_lie_in_the_package(self):
        others = [path.name for path in PACKAGE.iterdir()
                  if path.name != "__pycache__" and not re.fullmatch(r"[a-z][a-z0-9_]*\.py|__init__\.py", path.name)]
        self.assertEqual(others, [])
        self.assertGreater(len(files()), 1)

    def test_signs_and_sizes(self):
        for file in files():
            text = file.read_text()
            self.assertIsNone(re.search(r"[^ -~\n]", text), file.name)
            rows = text.split("\n")
            self.assertLessEqual(len(rows), 400, file.name)
            self.assertLessEqual(max(map(len, rows)), 120, file.name)

    def test_words_that_stand_nowhere(self):
        for file in files():
            self.assertIsNone(WORDS.search(file.read_text()), file.name)

    def test_functions_are_small_and_plain(self):
        for name, tree in parsed():
            for node in ast.walk(tree):
                if isinstance(node, ast.FunctionDef):
                    self.assertLessEqual(node.end_lineno - node.lineno + 1, 40, (name, node.name))
                    self.assertEqual(node.decorator_list, [], (name, node.name))
                    plain = node.args
                    extra = [plain.vararg, plain.kwarg] + plain.kwonlyargs + plain.posonlyargs
                    self.assertEqual(extra, [None, None], (name, node.name))

    def test_only_allowed_forms(self):
        for name, tree in parsed():
            for node in ast.walk(tree):
                place = (name, getattr(node, "lineno", None))
                self.assertIn(type(node).__name__, NODES, place)
                if isinstance(node, ast.Assign):
                    self.assertEqual(len(node.targets), 1, place)
                elif isinstance(node, ast.ListComp):
                    self.assertEqual(len(node.generators), 1, place)
                    self.assertLessEqual(len(node.generators[0].ifs), 1, place)
                elif isinstance(node, (ast.For, ast.While)):
                    self.assertEqual(node.orelse, [], place)
                elif isinstance(node, ast.Try):
                    self.assertEqual(node.finalbody, [], place)
                elif isinstance(node, ast.Constant):
                    self.assertIn(type(node.value), (int, str, bool, type(None)), place)
                    self.assertNotIn("%", str(node.value), place)
                elif isinstance(node, ast.Compare) and isinstance(node.ops[0], (ast.Is, ast.IsNot)):
                    self.assertIsInstance(node.comparators[0], ast.Constant, place)

    def test_imports_are_the_package_s_own_and_at_the_top(self):
        for name, tree in parsed():
            found = [node for node in ast.walk(tree) if isinstance(node, ast.ImportFrom)]
            self.assertEqual([node for node in found if node not in tree.body], [], name)
            for node in found:
                self.assertEqual(node.level, 0, name)
                source = PACKAGE / (node.module.removeprefix("unfoldnet.") + ".py")
                defined = {top.name for top in ast.parse(source.read_text()).body
                           if isinstance(top, (ast.FunctionDef, ast.ClassDef))}
                self.assertEqual([alias.name for alias in node.names if alias.name not in defined], [], name)

    def test_names(self):
        for name, tree in parsed():
            bound = bound_names(tree)
            self.assertEqual(bound & (OWN_NAMES | UNUSED), set(), name)
            under = [word for word in bound | stored_values(tree) if word.startswith("_") and word != "__init__"]
            self.assertEqual(under, [], name)
            used = {node.id for node in ast.walk(tree) if isinstance(node, ast.Name)}
            self.assertEqual(used - bound - OWN_NAMES, set(), name)

    def test_methods_and_values(self):
        trees = dict(parsed())
        own = set().union(*[methods(tree) for tree in trees.values()])
        values = set().union(*[stored_values(tree) for tree in trees.values()])
        self.assertEqual(own & values, set())
        self.assertEqual(values & OWN_METHODS, set())
        for name, tree in trees.items():
            called = {node.func.attr for node in ast.walk(tree)
                      if isinstance(node, ast.Call) and isinstance(node.func, ast.Attribute)}
            self.assertEqual(called - own - OWN_METHODS, set(), name)
            attributes = {node.attr for node in ast.walk(tree) if isinstance(node, ast.Attribute)}
            self.assertEqual(attributes & UNUSED, set(), name)

    def test_the_top_of_a_file(self):
        for name, tree in parsed():
            self.assertIsNotNone(ast.get_docstring(tree), name)
            for node in tree.body[1:]:
                self.assertIsInstance(node, (ast.ImportFrom, ast.FunctionDef, ast.ClassDef, ast.Assign), name)
                if isinstance(node, ast.Assign):
                    ast.literal_eval(node.value)
            tops = top_names(tree)
            self.assertEqual(len(tops), len(set(tops)), name)

    def test_classes_are_plain(self):
        for name, tree in parsed():
            for node in ast.walk(tree):
                if isinstance(node, ast.ClassDef):
                    self.assertIn(node, tree.body, name)
                    self.assertLessEqual(len(node.bases), 1, name)
                    self.assertEqual((node.keywords, node.decorator_list), ([], []), name)
                    body = node.body[1:] if ast.get_docstring(node) else node.body
                    self.assertEqual([part for part in body if not isinstance(part, ast.FunctionDef)], [], name)
                    named = [part.name for part in body]
                    self.assertEqual(len(named), len(set(named)), name)

    def test_locals_bear_no_name_of_a_class_an_import_or_python_s_own(self):
        for name, tree in parsed():
            taken = {alias.asname or alias.name for node in tree.body if isinstance(node, ast.ImportFrom)
                     for alias in node.names}
            taken = taken | {node.name for node in tree.body if isinstance(node, ast.ClassDef)} | set(dir(builtins))
            self.assertEqual(local_names(tree) & taken, set(), name)

    def test_no_two_files_draw_from_one_another(self):
        left = {"unfoldnet." + name.removesuffix(".py"): drawn_from(tree) for name, tree in parsed()}
        while left:
            free = [name for name in left if not left[name] & set(left)]
            self.assertNotEqual(free, [], sorted(left))
            left = {name: left[name] for name in left if name not in free}

    def test_what_is_walked_at_once_is_not_kept(self):
        for name, tree in parsed():
            around = parents(tree)
            for node in ast.walk(tree):
                if callee(node) not in ("zip", "enumerate", "reversed", "range", "items", "keys", "values"):
                    continue
                outer = around[node]
                walked = isinstance(outer, (ast.For, ast.comprehension)) and outer.iter == node
                handed = callee(outer) in WALKERS | {"join"} and outer.args[0] == node
                self.assertTrue(walked or handed, (name, node.lineno))

    def test_sets_are_not_kept(self):
        for name, tree in parsed():
            around = parents(tree)
            for node in ast.walk(tree):
                self.assertNotIsInstance(node, ast.Set, name)
                if callee(node) in ("set", "frozenset"):
                    outer = around[node]
                    while isinstance(outer, ast.BinOp):
                        outer = around[outer]
                    good = isinstance(outer, ast.Compare) or callee(outer) in ("sorted", "len") and not outer.keywords
                    self.assertTrue(good, (name, node.lineno))

    def test_keywords_of_python_s_own(self):
        for name, tree in parsed():
            for node in ast.walk(tree):
                if isinstance(node, ast.Call) and callee(node) in OWN_NAMES | OWN_METHODS:
                    words = {keyword.arg for keyword in node.keywords}
                    self.assertLessEqual(words, KEYWORDS.get(callee(node), set()), (name, node.lineno))

    def test_python_s_own_are_called_and_not_kept(self):
        for name, tree in parsed():
            around = parents(tree)
            errors = {word for word in OWN_NAMES if word[0].isupper()}
            for node in ast.walk(tree):
                if isinstance(node, ast.Name) and node.id in OWN_NAMES - errors:
                    outer = around[node]
                    kind = callee(outer) == "isinstance" or isinstance(outer, (ast.Tuple, ast.keyword))
                    self.assertTrue(kind or isinstance(outer, ast.Call) and outer.func == node, (name, node.lineno))

    def test_no_error_of_python_s_own_is_taken(self):
        for name, tree in parsed():
            for node in ast.walk(tree):
                if isinstance(node, ast.ExceptHandler):
                    self.assertIsInstance(node.type, ast.Name, (name, node.lineno))
                    self.assertIn(node.type.id, bound_names(tree) | {"KeyError", "StopIteration"}, (name, node.lineno))

    def test_no_power_with_an_unwritten_exponent(self):
        for name, tree in parsed():
            for node in ast.walk(tree):
                if isinstance(node, ast.BinOp) and isinstance(node.op, ast.Pow):
                    self.assertIsInstance(node.right, ast.Constant, (name, node.lineno))


if __name__ == "__main__":
    unittest.main()
