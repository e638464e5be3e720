"""The form of the package's files: what of ../shared/LANGUAGE.md can be seen at a glance."""

import ast
import builtins
import pathlib
import re
import unittest

import waithands

FOLDER = pathlib.Path(waithands.__file__).parent

# L8
OWN_NAMES = set(
    "len range enumerate zip min max sum abs sorted reversed int str bool bytes list tuple dict set frozenset"
    " isinstance ord repr any all divmod Exception ValueError TypeError KeyError IndexError LookupError"
    " ZeroDivisionError ArithmeticError OverflowError RuntimeError NotImplementedError AttributeError"
    " StopIteration".split()
)
# L17
WORDS_OUT = re.compile(
    r"\b(type|typing|typing_extensions|enum|Enum|IntEnum|StrEnum|Flag|IntFlag|Generic|Protocol|ABC|ABCMeta"
    r"|namedtuple|NamedTuple|TypedDict|TYPE_CHECKING|abstractmethod)\b|dataclass|overload|contextmanager"
)
# L6, L7
NODES_OUT = (
    ast.With, ast.AsyncWith, ast.AsyncFor, ast.AsyncFunctionDef, ast.Match, ast.Global, ast.Nonlocal,
    ast.Yield, ast.YieldFrom, ast.Await, ast.GeneratorExp, ast.NamedExpr, ast.Div, ast.MatMult, ast.Import,
)
AT_THE_TOP = (ast.ImportFrom, ast.FunctionDef, ast.ClassDef, ast.Assign)


def files():
    return sorted(FOLDER.rglob("*.py"))


def nodes():
    """Each file's name and each node in it."""
    for file in files():
        for node in ast.walk(ast.parse(file.read_text())):
            yield file.name, node


class Files(unittest.TestCase):

    def test_nothing_else_lies_in_the_package(self):
        others = [path.name for path in FOLDER.iterdir() if path.name != "__pycache__" and path.suffix != ".py"]
        self.assertEqual(others, [])
        self.assertIn("__init__.py", [file.name for file in files()])

    def test_signs_and_sizes(self):
        for file in files():
            with self.subTest(file=file.name):
                text = file.read_bytes().decode("ascii")
                self.assertRegex(text, r"\A[\n -~]*\Z")
                self.assertLessEqual(len(text.splitlines()), 400)
                self.assertLessEqual(max(map(len, text.splitlines())), 120)

    def test_words_that_are_out(self):
        for file in files():
            with self.subTest(file=file.name):
                self.assertIsNone(WORDS_OUT.search(file.read_text()))

    def test_the_top_of_a_file(self):
        for file in files():
            docstring, *rows = ast.parse(file.read_text()).body
            with self.subTest(file=file.name):
                self.assertIsInstance(docstring, ast.Expr)
                self.assertEqual([row for row in rows if not isinstance(row, AT_THE_TOP)], [])


class Rows(unittest.TestCase):

    def test_imports_are_the_package_s_own(self):
        for name, node in nodes():
            if isinstance(node, ast.ImportFrom):
                with self.subTest(file=name, row=node.lineno):
                    self.assertEqual(node.level, 0)
                    self.assertRegex(node.module, r"\Awaithands\.[a-z]+\Z")
                    self.assertNotIn("*", [alias.name for alias in node.names])

    def test_no_kind_of_row_or_value_that_is_out(self):
        for name, node in nodes():
            with self.subTest(file=name, row=getattr(node, "lineno", None)):
                self.assertNotIsInstance(node, NODES_OUT)
                if isinstance(node, ast.Constant):
                    self.assertNotIsInstance(node.value, (float, complex))

    def test_python_s_own_names(self):
        for name, node in nodes():
            if isinstance(node, ast.Name) and hasattr(builtins, node.id):
                with self.subTest(file=name, row=node.lineno):
                    self.assertIn(node.id, OWN_NAMES)
                    self.assertIsInstance(node.ctx, ast.Load)

    def test_functions_and_classes(self):
        for name, node in nodes():
            if isinstance(node, (ast.FunctionDef, ast.ClassDef)):
                with self.subTest(file=name, row=node.lineno):
                    self.assertEqual(node.decorator_list, [])
            if isinstance(node, ast.FunctionDef):
                with self.subTest(file=name, row=node.lineno):
                    self.assertLessEqual(node.end_lineno - node.lineno + 1, 40)
                    self.assertIsNone(node.args.vararg)
                    self.assertIsNone(node.args.kwarg)
                    self.assertEqual(node.args.posonlyargs, [])

    def test_names_are_plain(self):
        for name, node in nodes():
            if isinstance(node, ast.Name):
                with self.subTest(file=name, row=node.lineno):
                    self.assertRegex(node.id, r"\A[A-Za-z][A-Za-z0-9_]*\Z")


if __name__ == "__main__":
    unittest.main()
