"""The rules of LANGUAGE.md that a reading of the package's files can see; the number of each is in its test's name."""

import ast
import builtins
import pathlib
import re
import unittest
import warnings

PACKAGE = pathlib.Path(__file__).resolve().parent.parent / "fewties"
FILES = sorted(PACKAGE.rglob("*.py"))
TEXTS = {path: path.read_text(encoding="utf-8") for path in FILES}
TREES = {path: ast.parse(text) for path, text in TEXTS.items()}

NODES = """
    Module FunctionDef ClassDef Lambda arguments arg Return Assign AugAssign AnnAssign Delete For While If Raise Try
    Assert ImportFrom alias Expr Pass Break Continue ExceptHandler BoolOp And Or BinOp Add Sub Mult FloorDiv Mod Pow
    LShift RShift BitOr BitXor BitAnd UnaryOp Not USub Invert IfExp Dict Set List Tuple ListComp SetComp DictComp
    comprehension Compare Eq NotEq Lt LtE Gt GtE Is IsNot In NotIn Call keyword Constant Attribute Subscript Slice
    Starred Name Load Store Del JoinedStr FormattedValue
""".split()
BUILTINS = """
    len range enumerate zip min max sum abs sorted reversed int str bool bytes list tuple dict set frozenset isinstance
    ord repr any all divmod Exception ValueError TypeError KeyError IndexError LookupError ZeroDivisionError
    ArithmeticError OverflowError RuntimeError NotImplementedError AttributeError StopIteration
""".split()
METHODS = """
    append clear copy count endswith extend find get index insert isalnum isalpha isdigit islower isspace isupper items
    join keys ljust lower lstrip partition pop remove replace reverse rfind rjust rpartition rsplit rstrip setdefault
    split splitlines startswith strip update upper values zfill bit_length title capitalize swapcase casefold center
    removeprefix removesuffix rindex isascii isdecimal sort add discard
""".split()
DUNDERS = ["__init__", "__eq__", "__repr__", "__str__", "__len__"]
NOWHERE = ["register", "mro", "elements", "open", "input", "version_info", "with_traceback", "add_note", "format"]
WORDS = re.compile(
    r"\b(type|typing|typing_extensions|enum|Enum|IntEnum|StrEnum|Flag|IntFlag|Generic|Protocol|ABC|ABCMeta|namedtuple"
    r"|NamedTuple|TypedDict|TYPE_CHECKING|abstractmethod)\b|dataclass|overload|contextmanager"
)


def nodes(kinds):
    return [(path, node) for path, tree in TREES.items() for node in ast.walk(tree) if isinstance(node, kinds)]


def module_names(tree):
    names = []
    for node in tree.body:
        if isinstance(node, (ast.FunctionDef, ast.ClassDef)):
            names.append(node.name)
        elif isinstance(node, ast.ImportFrom):
            names += [alias.asname or alias.name for alias in node.names]
        elif isinstance(node, ast.Assign):
            names += [target.id for target in node.targets]
    return names


def bound_names(tree):
    """Every name that the file gives a meaning to, with the functions, parameters and keywords."""
    names = []
    for node in ast.walk(tree):
        if isinstance(node, (ast.FunctionDef, ast.ClassDef)):
            names.append(node.name)
        elif isinstance(node, (ast.arg, ast.keyword)):
            names.append(node.arg)
        elif isinstance(node, ast.Name) and not isinstance(node.ctx, ast.Load):
            names.append(node.id)
        elif isinstance(node, ast.ExceptHandler) and node.name:
            names.append(node.name)
    return names


def own_methods():
    return [part.name for path, node in nodes(ast.ClassDef) for part in node.body if isinstance(part, ast.FunctionDef)]


class TestLanguage(unittest.TestCase):
    def test_l1_l14_files(self):
        for path in PACKAGE.rglob("*"):
            if "__pycache__" not in path.parts:
                self.assertRegex(path.name, r"\A[a-z_][a-z0-9_]*\.py\Z")
        self.assertIn(PACKAGE / "__init__.py", FILES)
        for path, text in TEXTS.items():
            self.assertRegex(text, r"\A[ -~\n]*\Z", path)

    def test_l2_l16_imports(self):
        for path, node in nodes((ast.Import, ast.ImportFrom)):
            self.assertIsInstance(node, ast.ImportFrom)
            self.assertEqual(node.level, 0)
            self.assertTrue(node.module.startswith("fewties."), node.module)
            source = TREES[PACKAGE / (node.module.split(".")[1] + ".py")]
            own = [part for part in source.body if not isinstance(part, ast.ImportFrom)]
            defined = module_names(ast.Module(own, []))
            for alias in node.names:
                self.assertIn(alias.name, defined, path)

    def test_l16_no_two_import_from_each_other(self):
        wants = {path.stem: [] for path in FILES}
        for path, node in nodes(ast.ImportFrom):
            wants[path.stem].append(node.module.split(".")[1])
        while wants:
            free = [name for name in wants if not any(other in wants for other in wants[name])]
            self.assertTrue(free, wants)
            for name in free:
                del wants[name]

    def test_l3_l15_module_level(self):
        for path, tree in TREES.items():
            for at, node in enumerate(tree.body):
                word = isinstance(node, ast.Expr) and at == 0 and isinstance(node.value, ast.Constant)
                kinds = (ast.ImportFrom, ast.FunctionDef, ast.ClassDef, ast.Assign)
                self.assertTrue(word or isinstance(node, kinds), (path, node.lineno))
            names = module_names(tree)
            self.assertEqual(len(names), len(set(names)), path)

    def test_l4_l5_functions_and_classes(self):
        for path, node in nodes((ast.FunctionDef, ast.ClassDef)):
            self.assertEqual(node.decorator_list, [])
        for path, node in nodes(ast.arguments):
            self.assertEqual((node.posonlyargs, node.vararg, node.kwarg), ([], None, None))
        for path, node in nodes(ast.ClassDef):
            self.assertLessEqual(len(node.bases), 1)
            for part in node.body:
                self.assertIsInstance(part, (ast.FunctionDef, ast.Expr, ast.Pass))

    def test_l6_l7_statements_and_expressions(self):
        for path, node in nodes(ast.AST):
            self.assertIn(type(node).__name__, NODES, (path, getattr(node, "lineno", None)))
        for path, node in nodes((ast.For, ast.While)):
            self.assertEqual(node.orelse, [], (path, node.lineno))
        for path, node in nodes(ast.Constant):
            self.assertIsInstance(node.value, (int, str, bytes, type(None)), (path, node.lineno))

    def test_l8_names_that_are_read(self):
        for path, tree in TREES.items():
            known = set(bound_names(tree)) | set(module_names(tree)) | set(BUILTINS)
            for node in ast.walk(tree):
                if isinstance(node, ast.Name) and isinstance(node.ctx, ast.Load):
                    self.assertIn(node.id, known, (path, node.lineno))

    def test_l10_size(self):
        for path, text in TEXTS.items():
            rows = text.split("\n")
            self.assertLessEqual(len(rows), 400, path)
            for row in rows:
                self.assertLessEqual(len(row), 120, (path, row))
        for path, node in nodes(ast.FunctionDef):
            self.assertLessEqual(node.end_lineno - node.lineno + 1, 40, (path, node.name))

    def test_l12_l15_l17_names(self):
        for path, tree in TREES.items():
            whole = set(module_names(tree))
            for name in bound_names(tree):
                self.assertTrue(name in DUNDERS or not name.startswith("_"), (path, name))
                self.assertNotIn(name, NOWHERE, path)
                self.assertTrue(name in own_methods() or not hasattr(builtins, name), (path, name))
            for node in ast.walk(tree):
                if isinstance(node, ast.FunctionDef):
                    inner = [name for part in node.body for name in bound_names(part)] + bound_names(node.args)
                    self.assertEqual(whole & set(inner), set(), (path, node.name))

    def test_l17_words(self):
        for path, text in TEXTS.items():
            self.assertIsNone(WORDS.search(text), path)

    def test_l18_no_method_is_an_attribute(self):
        assigned = {node.attr for path, node in nodes(ast.Attribute) if isinstance(node.ctx, ast.Store)}
        self.assertEqual(assigned & set(own_methods()), set())
        for path, node in nodes(ast.Attribute):
            known = assigned | set(own_methods()) | set(METHODS) | {"__init__"}
            self.assertIn(node.attr, known, (path, node.lineno))

    def test_l3_functions_in_tables_are_named_before_they_are_called(self):
        for path, node in nodes(ast.Call):
            self.assertIsInstance(node.func, (ast.Name, ast.Attribute), (path, node.lineno))

    def test_l20_is(self):
        for path, node in nodes(ast.Compare):
            for sign, right in zip(node.ops, node.comparators):
                if isinstance(sign, (ast.Is, ast.IsNot)):
                    self.assertIsInstance(right, ast.Constant, (path, node.lineno))
                    self.assertIn(right.value, (None, True, False), (path, node.lineno))

    def test_l25_methods(self):
        for path, node in nodes(ast.Call):
            if isinstance(node.func, ast.Attribute):
                self.assertIn(node.func.attr, METHODS + own_methods() + ["__init__"], (path, node.lineno))

    def test_l27_no_warnings_and_plain_strings(self):
        with warnings.catch_warnings():
            warnings.simplefilter("error")
            for path, text in TEXTS.items():
                compile(text, str(path), "exec")
        for path, node in nodes(ast.Constant):
            if isinstance(node.value, str):
                self.assertNotIn("%", node.value, (path, node.lineno))


if __name__ == "__main__":
    unittest.main()
