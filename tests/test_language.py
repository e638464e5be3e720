"""The form of the package's files: what of ../shared/LANGUAGE.md can be seen at a glance."""

import ast
import builtins
import pathlib
import re
import unittest

import waithands

FOLDER = pathlib.Path(waithands.__file__).parent

# L8
OWN_NAMES = set(
    "len range enumerate zip min max sum abs sorted reversed int str bool bytes list tuple dict set frozenset"
    " isinstance ord repr any all divmod Exception ValueError TypeError KeyError IndexError LookupError"
    " ZeroDivisionError ArithmeticError OverflowError RuntimeError NotImplementedError AttributeError"
    " StopIteration".split()
)
# L25
OWN_METHODS = set(
    "append clear copy count endswith extend find get index insert isalnum isalpha isdigit islower isspace isupper"
    " items join keys ljust lower lstrip partition pop remove replace reverse rfind rjust rpartition rsplit rstrip"
    " setdefault split splitlines startswith strip update upper values zfill bit_length".split()
)
# L17
WORDS_OUT = re.compile(
    r"\b(type|typing|typing_extensions|enum|Enum|IntEnum|StrEnum|Flag|IntFlag|Generic|Protocol|ABC|ABCMeta"
    r"|namedtuple|NamedTuple|TypedDict|TYPE_CHECKING|abstractmethod)\b|dataclass|overload|contextmanager"
)
# L6, L7
NODES_OUT = (
    ast.With, ast.AsyncWith, ast.AsyncFor, ast.AsyncFunctionDef, ast.Match, ast.Global, ast.Nonlocal,
    ast.Yield, ast.YieldFrom, ast.Await, ast.GeneratorExp, ast.NamedExpr, ast.Div, ast.MatMult, ast.Import,
)
AT_THE_TOP = (ast.ImportFrom, ast.FunctionDef, ast.ClassDef, ast.Assign)


def files():
    return sorted(FOLDER.rglob("*.py"))


def nodes():
    """Each file's name and each node in it."""
    for file in files():
        for node in ast.walk(ast.parse(file.read_text())):
            yield file.name, node


class Files(unittest.TestCase):

    def test_nothing_else_lies_in_the_package(self):
        others = [path.name for path in FOLDER.iterdir() if path.name != "__pycache__" and path.suffix != ".py"]
        self.assertEqual(others, [])
        self.assertIn("__init__.py", [file.name for file in files()])

    def test_signs_and_sizes(self):
        for file in files():
            with self.subTest(file=file.name):
                text = file.read_bytes().decode("ascii")
                self.assertRegex(text, r"\A[\n -~]*\Z")
                self.assertLessEqual(len(text.splitlines()), 400)
                self.assertLessEqual(max(map(len, text.splitlines())), 120)

    def test_words_that_are_out(self):
        for file in files():
            with self.subTest(file=file.name):
                self.assertIsNone(WORDS_OUT.search(file.read_text()))

    def test_the_top_of_a_file(self):
        for file in files():
            docstring, *rows = ast.parse(file.read_text()).body
            with self.subTest(file=file.name):
                self.assertIsInstance(docstring, ast.Expr)
                self.assertEqual([row for row in rows if not isinstance(row, AT_THE_TOP)], [])


class Rows(unittest.TestCase):

    def test_imports_are_the_package_s_own(self):
        for name, node in nodes():
            if isinstance(node, ast.ImportFrom):
                with self.subTest(file=name, row=node.lineno):
                    self.assertEqual(node.level, 0)
                    self.assertRegex(node.module, r"\Awaithands\.[a-z]+\Z")
                    self.assertNotIn("*", [alias.name for alias in node.names])

    def test_no_kind_of_row_or_value_that_is_out(self):
        for name, node in nodes():
            with self.subTest(file=name, row=getattr(node, "lineno", None)):
                self.assertNotIsInstance(node, NODES_OUT)
                if isinstance(node, ast.Constant):
                    self.assertNotIsInstance(node.value, (float, complex))

    def test_python_s_own_names(self):
        for name, node in nodes():
            if isinstance(node, ast.Name) and hasattr(builtins, node.id):
                with self.subTest(file=name, row=node.lineno):
                    self.assertIn(node.id, OWN_NAMES)
                    self.assertIsInstance(node.ctx, ast.Load)

    def test_functions_and_classes(self):
        for name, node in nodes():
            if isinstance(node, (ast.FunctionDef, ast.ClassDef)):
                with self.subTest(file=name, row=node.lineno):
                    self.assertEqual(node.decorator_list, [])
            if isinstance(node, ast.FunctionDef):
                with self.subTest(file=name, row=node.lineno):
                    self.assertLessEqual(node.end_lineno - node.lineno + 1, 40)
                    self.assertIsNone(node.args.vararg)
                    self.assertIsNone(node.args.kwarg)
                    self.assertEqual(node.args.posonlyargs, [])

    def test_locals_bear_no_import_s_and_no_class_s_name(self):
        for file in files():
            tree = ast.parse(file.read_text())
            taken = {row.name for row in tree.body if isinstance(row, ast.ClassDef)}
            taken |= {name.name for row in tree.body if isinstance(row, ast.ImportFrom) for name in row.names}
            for node in ast.walk(tree):
                if isinstance(node, ast.arg):
                    with self.subTest(file=file.name, row=node.lineno):
                        self.assertNotIn(node.arg, taken)
                        self.assertFalse(hasattr(builtins, node.arg))
                if isinstance(node, ast.Name) and isinstance(node.ctx, ast.Store):
                    with self.subTest(file=file.name, row=node.lineno):
                        self.assertNotIn(node.id, taken)

    def test_no_name_is_both_a_method_and_a_value(self):
        methods, values = set(), set()
        for name, node in nodes():
            if isinstance(node, ast.ClassDef):
                methods |= {row.name for row in node.body if isinstance(row, ast.FunctionDef)}
            if isinstance(node, ast.Attribute) and isinstance(node.ctx, ast.Store):
                values.add(node.attr)
        self.assertEqual(methods & values, set())

    def test_methods_and_values_are_python_s_listed_ones_or_the_package_s(self):
        trees = [ast.parse(file.read_text()) for file in files()]
        classes = [row for tree in trees for row in tree.body if isinstance(row, ast.ClassDef)]
        methods = {row.name for each in classes for row in each.body if isinstance(row, ast.FunctionDef)}
        stores = [node for name, node in nodes() if isinstance(node, ast.Attribute) and isinstance(node.ctx, ast.Store)]
        values = {node.attr for node in stores}
        # A kept set's own (L24).
        called = OWN_METHODS | methods | {"add", "discard"}
        for name, node in nodes():
            if isinstance(node, ast.Call) and isinstance(node.func, ast.Attribute):
                with self.subTest(file=name, row=node.lineno):
                    self.assertIn(node.func.attr, called)
            if isinstance(node, ast.Attribute):
                with self.subTest(file=name, row=node.lineno):
                    self.assertIn(node.attr, called | values)

    def test_is_stands_beside_none_true_and_false_alone(self):
        for name, node in nodes():
            if isinstance(node, ast.Compare) and any(isinstance(sign, (ast.Is, ast.IsNot)) for sign in node.ops):
                with self.subTest(file=name, row=node.lineno):
                    self.assertIsInstance(node.comparators[0], ast.Constant)
                    self.assertIn(node.comparators[0].value, (None, True, False))

    def test_no_two_files_draw_from_one_another(self):
        draws = {}
        for file in files():
            rows = [row for row in ast.parse(file.read_text()).body if isinstance(row, ast.ImportFrom)]
            draws[file.stem] = {row.module.partition(".")[2] for row in rows}
        while draws:
            free = [name for name, others in draws.items() if not others & set(draws)]
            self.assertTrue(free, draws)
            draws = {name: others for name, others in draws.items() if name not in free}

    def test_names_are_plain(self):
        for name, node in nodes():
            if isinstance(node, ast.Name):
                with self.subTest(file=name, row=node.lineno):
                    self.assertRegex(node.id, r"\A[A-Za-z][A-Za-z0-9_]*\Z")


if __name__ == "__main__":
    unittest.main()
