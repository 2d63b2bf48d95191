"""The form of the package's files: those of the language rules (L1 to L28) that a plain walk can see."""

import ast
import builtins
import re
import unittest
from pathlib import Path

PACKAGE = Path(__file__).resolve().parent.parent / "bellwrite"

STATEMENTS = (
    ast.Assign, ast.AugAssign, ast.If, ast.While, ast.For, ast.Return, ast.Break, ast.Continue, ast.Pass,
    ast.Raise, ast.Try, ast.Expr, ast.FunctionDef, ast.ClassDef, ast.ImportFrom,
)
EXPRESSIONS = (
    ast.Constant, ast.Name, ast.List, ast.Tuple, ast.Dict, ast.Set, ast.BinOp, ast.UnaryOp, ast.BoolOp, ast.Compare,
    ast.IfExp, ast.Call, ast.Attribute, ast.Subscript, ast.Slice, ast.ListComp, ast.JoinedStr, ast.FormattedValue,
    ast.Lambda,
)
OWN_NAMES = set(
    "len range enumerate zip min max sum abs sorted reversed int str bool list tuple dict set frozenset isinstance "
    "ord repr any all divmod Exception ValueError TypeError KeyError IndexError LookupError ZeroDivisionError "
    "ArithmeticError OverflowError RuntimeError NotImplementedError AttributeError StopIteration".split()
)
OWN_METHODS = set("__init__ __eq__ __repr__ __str__ __len__".split())
WORDS_OUT = re.compile(
    r"\b(type|typing|typing_extensions|enum|Enum|IntEnum|StrEnum|Flag|IntFlag|Generic|Protocol|ABC|ABCMeta|"
    r"namedtuple|NamedTuple|TypedDict|TYPE_CHECKING|abstractmethod)\b|dataclass|overload|contextmanager"
)
WALKED_AT_ONCE = set("zip enumerate reversed range".split())
WALKING_METHODS = set("items keys values".split())
WALKERS = set("list tuple dict sorted sum any all enumerate zip min max join".split())
METHODS = set(
    "append clear copy count endswith extend find get index insert isalnum isalpha isdigit islower isspace isupper "
    "items join keys ljust lower lstrip partition pop remove replace reverse rfind rjust rpartition rsplit rstrip "
    "setdefault split splitlines startswith strip update upper values zfill bit_length".split()
)
NAMES_OUT = set("register mro elements open input version_info with_traceback add_note format format_map sort".split())


def sources():
    return [(path.name, path.read_text(encoding="utf-8")) for path in sorted(PACKAGE.glob("*.py"))]


def nodes(text, kind):
    return [node for node in ast.walk(ast.parse(text)) if isinstance(node, kind)]


def bound_names(text):
    names = [node.id for node in nodes(text, ast.Name) if isinstance(node.ctx, ast.Store)]
    names += [node.name for node in nodes(text, (ast.FunctionDef, ast.ClassDef))]
    names += [node.arg for node in nodes(text, ast.arg)]
    names += [alias.asname or alias.name for node in nodes(text, ast.ImportFrom) for alias in node.names]
    names += [node.name for node in nodes(text, ast.ExceptHandler) if node.name]
    return names


def imported_names(text):
    return [alias.name for node in nodes(text, ast.ImportFrom) for alias in node.names]


def inner_names(text):
    """The parameters and locals of a file's defs."""
    names = [node.arg for node in nodes(text, ast.arg)]
    for function in nodes(text, (ast.FunctionDef, ast.Lambda)):
        names += [node.id for node in ast.walk(function)
                  if isinstance(node, ast.Name) and isinstance(node.ctx, ast.Store)]
    return names


def values_of_objects(text):
    return [node.attr for node in nodes(text, ast.Attribute) if isinstance(node.ctx, ast.Store)]


def methods_of(kind):
    return [part.name for part in kind.body if isinstance(part, ast.FunctionDef)]


def methods_of_objects(text):
    return [name for kind in nodes(text, ast.ClassDef) for name in methods_of(kind)]


def called_name(call):
    return getattr(call.func, "id", None) or getattr(call.func, "attr", None)


def walks_kept(text):
    """Calls that ought to be walked where they stand, and are not."""
    every = list(ast.walk(ast.parse(text)))
    calls = [node for node in every if isinstance(node, ast.Call)]
    walked = [node.iter for node in every if isinstance(node, (ast.For, ast.comprehension))]
    for call in calls:
        if called_name(call) in WALKERS:
            walked += call.args if called_name(call) == "zip" else call.args[:1]
    ought = [call for call in calls if getattr(call.func, "id", None) in WALKED_AT_ONCE
             or getattr(call.func, "attr", None) in WALKING_METHODS]
    return [ast.unparse(call) for call in ought if call not in walked]


class Form(unittest.TestCase):
    def for_each_file(self, check):
        for name, text in sources():
            with self.subTest(name):
                check(text)

    def test_files(self):
        self.assertTrue((PACKAGE / "__init__.py").is_file())
        for path in PACKAGE.iterdir():
            if path.name != "__pycache__":
                self.assertTrue(path.is_file())
                self.assertRegex(path.name, r"^(__init__|[a-z][a-z0-9_]*)\.py$")

    def test_signs_and_size(self):
        def check(text):
            self.assertRegex(text, r"\A[ -~\n]*\Z")
            rows = text.splitlines()
            self.assertLessEqual(len(rows), 400)
            self.assertLessEqual(max([len(row) for row in rows], default=0), 120)
            for node in nodes(text, ast.FunctionDef):
                self.assertLessEqual(node.end_lineno - node.lineno + 1, 40, node.name)
        self.for_each_file(check)

    def test_words(self):
        self.for_each_file(lambda text: self.assertIsNone(WORDS_OUT.search(text)))

    def test_statements(self):
        def check(text):
            tree = ast.parse(text)
            for node in [node for node in ast.walk(tree) if isinstance(node, ast.stmt)]:
                self.assertIsInstance(node, STATEMENTS)
                if isinstance(node, ast.Expr) and node is not tree.body[0]:
                    self.assertIsInstance(node.value, ast.Call)
                if isinstance(node, ast.Assign):
                    self.assertEqual(len(node.targets), 1)
                if isinstance(node, (ast.While, ast.For)):
                    self.assertEqual(node.orelse, [])
                if isinstance(node, ast.Try):
                    self.assertEqual(node.finalbody, [])
            for node in tree.body[1:]:
                self.assertIsInstance(node, (ast.ImportFrom, ast.FunctionDef, ast.ClassDef, ast.Assign))
        self.for_each_file(check)

    def test_imports(self):
        files = [f"bellwrite.{path.stem}" for path in PACKAGE.glob("*.py") if path.stem != "__init__"]

        def check(text):
            for node in nodes(text, ast.ImportFrom):
                self.assertEqual(node.level, 0)
                self.assertIn(node.module, files)
                self.assertNotIn("*", [alias.name for alias in node.names])
        self.for_each_file(check)
        self.assertEqual(nodes((PACKAGE / "__init__.py").read_text(), ast.ImportFrom), [])

    def test_no_two_files_draw_from_one_another(self):
        draws = {f"bellwrite.{name[:-3]}": {node.module for node in nodes(text, ast.ImportFrom)}
                 for name, text in sources()}
        while draws:
            ready = [name for name, drawn in draws.items() if not drawn & set(draws)]
            self.assertTrue(ready, f"these draw from one another: {sorted(draws)}")
            for name in ready:
                draws.pop(name)

    def test_names_come_from_the_file_that_defines_them(self):
        def check(text):
            for node in nodes(text, ast.ImportFrom):
                drawn = (PACKAGE.parent / (node.module.replace(".", "/") + ".py")).read_text(encoding="utf-8")
                defined = set(bound_names(drawn)) - set(imported_names(drawn))
                for alias in node.names:
                    self.assertIn(alias.name, defined)
        self.for_each_file(check)

    def test_inner_names_are_no_imports_or_classes(self):
        def check(text):
            outer = imported_names(text) + [node.name for node in nodes(text, ast.ClassDef)]
            self.assertEqual([name for name in inner_names(text) if name in outer], [])
        self.for_each_file(check)

    def test_walked_at_once(self):
        self.for_each_file(lambda text: self.assertEqual(walks_kept(text), []))

    def test_methods(self):
        own = [name for _, text in sources() for name in values_of_objects(text) + methods_of_objects(text)]

        def check(text):
            for node in nodes(text, ast.Attribute):
                self.assertTrue(node.attr in METHODS or node.attr in own, node.attr)
        self.for_each_file(check)

    def test_methods_and_values_of_objects(self):
        values = [name for _, text in sources() for name in values_of_objects(text)]
        methods = [name for _, text in sources() for name in methods_of_objects(text)]
        self.assertEqual([name for name in values if name in methods], [])
        for name in values:
            self.assertFalse(any(hasattr(kind, name) for kind in (str, int, list, tuple, dict, set, bytes)), name)

        def check(text):
            for kind in nodes(text, ast.ClassDef):
                self.assertEqual(len(methods_of(kind)), len(set(methods_of(kind))), kind.name)
        self.for_each_file(check)

    def test_definitions(self):
        def check(text):
            for node in nodes(text, (ast.FunctionDef, ast.ClassDef)):
                self.assertEqual(node.decorator_list, [])
            for node in nodes(text, ast.arguments):
                self.assertEqual((node.vararg, node.kwarg, node.kwonlyargs, node.posonlyargs), (None, None, [], []))
            for node in nodes(text, ast.ClassDef):
                self.assertLessEqual(len(node.bases), 1)
                for part in node.body:
                    self.assertIsInstance(part, (ast.FunctionDef, ast.Pass))
        self.for_each_file(check)

    def test_expressions(self):
        def check(text):
            for node in nodes(text, ast.expr):
                self.assertIsInstance(node, EXPRESSIONS)
                if isinstance(node, ast.Constant):
                    self.assertIsInstance(node.value, (int, str, type(None)))
                if isinstance(node, ast.ListComp):
                    self.assertEqual(len(node.generators), 1)
                    self.assertLessEqual(len(node.generators[0].ifs), 1)
                if isinstance(node, ast.FormattedValue):
                    self.assertIsInstance(node.value, ast.Name)
                    self.assertIsNone(node.format_spec)
                if isinstance(node, ast.BinOp):
                    self.assertNotIsInstance(node.op, (ast.Div, ast.MatMult))
                    if isinstance(node.op, ast.Pow):
                        self.assertIn(getattr(node.right, "value", None), range(65))
                if isinstance(node, ast.Compare) and isinstance(node.ops[0], (ast.Is, ast.IsNot)):
                    self.assertIn(getattr(node.comparators[0], "value", 0), (None, True, False))
        self.for_each_file(check)

    def test_names(self):
        def check(text):
            bound = bound_names(text)
            for name in bound:
                if name in OWN_METHODS:
                    continue
                self.assertFalse(name.startswith("_"), name)
                self.assertFalse(hasattr(builtins, name), name)
                self.assertNotIn(name, NAMES_OUT)
            for node in nodes(text, ast.Name):
                self.assertTrue(node.id in bound or node.id in OWN_NAMES, node.id)
            for node in nodes(text, ast.Attribute):
                self.assertTrue(node.attr == "__init__" or not node.attr.startswith("_"), node.attr)
                self.assertNotIn(node.attr, NAMES_OUT)
        self.for_each_file(check)


if __name__ == "__main__":
    unittest.main()
