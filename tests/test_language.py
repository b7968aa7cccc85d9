"""The form of the package's files: some of the rules of LANGUAGE.md, not all of them."""

import ast
import builtins
import pathlib
import re
import unittest

PACKAGE = pathlib.Path(__file__).resolve().parent.parent / "trackedtextdesk"
FILES = sorted(PACKAGE.glob("*.py"))

NODES = """
Module FunctionDef arguments arg ClassDef Return Assign AugAssign For While If Raise Try ExceptHandler ImportFrom
alias Expr Pass Break Continue BoolOp And Or BinOp Add Sub Mult FloorDiv Mod Pow BitAnd BitOr BitXor LShift RShift
UnaryOp Not USub Invert Lambda IfExp Dict List Tuple Set ListComp comprehension Compare Eq NotEq Lt LtE Gt GtE Is
IsNot In NotIn Call keyword JoinedStr FormattedValue Constant Attribute Subscript Slice Name Load Store
""".split()

OWN_NAMES = """
len range enumerate zip min max sum abs sorted reversed int str bool list tuple dict set frozenset isinstance ord
repr any all divmod Exception ValueError TypeError KeyError IndexError LookupError ZeroDivisionError ArithmeticError
OverflowError RuntimeError NotImplementedError AttributeError StopIteration
""".split()

OWN_METHODS = """
append clear copy count endswith extend find get index insert isalnum isalpha isdigit islower isspace isupper items
join keys ljust lower lstrip partition pop remove replace reverse rfind rjust rpartition rsplit rstrip setdefault
split splitlines startswith strip update upper values zfill bit_length
""".split()

WORDS_OUT = """
type typing typing_extensions enum Enum IntEnum StrEnum Flag IntFlag Generic Protocol ABC ABCMeta namedtuple
NamedTuple TypedDict TYPE_CHECKING abstractmethod
""".split()

NAMES_OUT = """
register mro elements open input version_info with_traceback add_note attrgetter breakpoint builtins compile delattr
dir eval exec exit gc getattr globals hasattr help id importlib locals methodcaller os quit setattr super vars sys
format format_map
""".split()


def is_plain(node):
    if isinstance(node, (ast.Tuple, ast.List)):
        return all(is_plain(inner) for inner in node.elts)
    if isinstance(node, ast.Dict):
        return all(is_plain(inner) for inner in node.keys + node.values)
    return isinstance(node, ast.Constant) and isinstance(node.value, (int, str, type(None)))


def bound_names(tree):
    names = [node.id for node in ast.walk(tree) if isinstance(node, ast.Name) and isinstance(node.ctx, ast.Store)]
    names += [node.arg for node in ast.walk(tree) if isinstance(node, ast.arg)]
    return names + [node.name for node in ast.walk(tree) if isinstance(node, (ast.FunctionDef, ast.ClassDef))]


class LanguageTest(unittest.TestCase):
    def trees(self):
        for path in FILES:
            yield path.name, ast.parse(path.read_text("utf-8"))

    def test_files(self):
        self.assertIn("written.py", [path.name for path in FILES])
        for path in PACKAGE.iterdir():
            self.assertTrue(path.name == "__pycache__" or re.fullmatch("[a-z_0-9]+\\.py", path.name), path)

    def test_signs_and_sizes(self):
        for path in FILES:
            text = path.read_text("utf-8")
            self.assertRegex(text, r"\A[ -~\n]*\Z", path.name)
            self.assertLess(len(text.splitlines()), 400, path.name)
            self.assertLessEqual(max(len(line) for line in text.splitlines()), 120, path.name)

    def test_words(self):
        for path in FILES:
            words = re.findall(r"\w+", path.read_text("utf-8"))
            self.assertEqual([word for word in words if word in WORDS_OUT], [], path.name)
            self.assertEqual([word for word in words if re.search("dataclass|overload|contextmanager", word)], [])

    def test_top_of_a_module(self):
        for name, tree in self.trees():
            bound = []
            for node in tree.body:
                if isinstance(node, ast.Assign):
                    self.assertTrue(is_plain(node.value), (name, node.lineno))
                    bound += [target.id for target in node.targets]
                elif isinstance(node, (ast.FunctionDef, ast.ClassDef)):
                    bound.append(node.name)
                elif isinstance(node, ast.Expr):
                    self.assertIsInstance(node.value, ast.Constant, (name, node.lineno))
                else:
                    self.assertIsInstance(node, ast.ImportFrom, (name, node.lineno))
                    bound += [one.name for one in node.names]
            self.assertEqual(len(set(bound)), len(bound), name)

    def test_imports_are_the_packages_own_and_never_in_a_ring(self):
        drawn = {}
        for name, tree in self.trees():
            rows = [node for node in ast.walk(tree) if isinstance(node, ast.ImportFrom)]
            self.assertTrue(all(re.fullmatch("trackedtextdesk\\.[a-z]+", row.module) for row in rows), name)
            drawn[f"trackedtextdesk.{name[:-3]}"] = {row.module for row in rows}
        while drawn:
            free = [name for name in drawn if not drawn[name] & set(drawn)]
            self.assertNotEqual(free, [], drawn)
            drawn = {name: rows for name, rows in drawn.items() if name not in free}

    def test_nodes(self):
        for name, tree in self.trees():
            for node in ast.walk(tree):
                self.assertIn(type(node).__name__, NODES, (name, getattr(node, "lineno", 0)))
                if isinstance(node, ast.Assign):
                    self.assertEqual(len(node.targets), 1, (name, node.lineno))
                if isinstance(node, (ast.For, ast.While)):
                    self.assertEqual(node.orelse, [], (name, node.lineno))
                if isinstance(node, ast.FormattedValue):
                    self.assertIsInstance(node.value, ast.Name, name)
                if isinstance(node, ast.Constant):
                    self.assertIsInstance(node.value, (int, str, type(None)), (name, node.lineno))
                    self.assertNotIn("%", str(node.value), (name, node.lineno))
                if isinstance(node, ast.Compare) and any(isinstance(one, (ast.Is, ast.IsNot)) for one in node.ops):
                    self.assertIsInstance(node.comparators[0], ast.Constant, (name, node.lineno))

    def test_functions(self):
        for name, tree in self.trees():
            for node in ast.walk(tree):
                if isinstance(node, ast.FunctionDef):
                    self.assertLess(node.end_lineno - node.lineno, 40, (name, node.name))
                    self.assertEqual(node.decorator_list, [])
                    self.assertIsNone(node.args.vararg or node.args.kwarg or node.returns)
                    self.assertEqual(node.args.kwonlyargs, [])

    def test_names(self):
        for name, tree in self.trees():
            for bound in bound_names(tree):
                self.assertTrue(bound == "__init__" or not bound.startswith("_"), (name, bound))
                self.assertFalse(bound != "__init__" and hasattr(builtins, bound), (name, bound))
                self.assertNotIn(bound, NAMES_OUT, name)
            known = bound_names(tree) + OWN_NAMES
            known += [one.name for node in ast.walk(tree) if isinstance(node, ast.ImportFrom) for one in node.names]
            for node in ast.walk(tree):
                if isinstance(node, ast.Name):
                    self.assertIn(node.id, known, (name, node.lineno))

    def test_locals_are_not_called_like_a_class_or_an_import(self):
        for name, tree in self.trees():
            taken = {one.name for node in tree.body if isinstance(node, ast.ImportFrom) for one in node.names}
            taken |= {node.name for node in tree.body if isinstance(node, ast.ClassDef)}
            for node in ast.walk(tree):
                if isinstance(node, ast.FunctionDef):
                    self.assertEqual((set(bound_names(node)) - {node.name}) & taken, set(), (name, node.name))

    def test_methods_and_values(self):
        methods = set()
        values = set()
        for name, tree in self.trees():
            for node in ast.walk(tree):
                if isinstance(node, ast.ClassDef):
                    methods |= {inner.name for inner in node.body if isinstance(inner, ast.FunctionDef)}
                if isinstance(node, ast.Attribute) and isinstance(node.ctx, ast.Store):
                    values.add(node.attr)
        self.assertEqual(methods & values, set())
        taken = {one for kind in (str, int, list, dict, set, bytes, tuple) for one in dir(kind)}
        self.assertEqual(values & taken, set())
        self.assertEqual((methods - {"__init__", "add", "discard"} - set(OWN_METHODS)) & taken, set())
        for name, tree in self.trees():
            for node in ast.walk(tree):
                if isinstance(node, ast.Attribute):
                    self.assertIn(node.attr, methods | values | set(OWN_METHODS), (name, node.lineno))
