"""What README.md shows is what the program tells."""

import ast
import pathlib
import re
import unittest

README = pathlib.Path(__file__).parent.parent / "README.md"


def shown_value(remark):
    """The list of the plain value that a remark begins with, or an empty one; what follows a colon explains it."""
    for text in (remark, remark.partition(":")[0]):
        try:
            return [ast.literal_eval(text.strip())]
        except (SyntaxError, ValueError):
            pass
    return []


def told_value(row, names):
    """What a row of a block tells, or gives to its name."""
    if isinstance(row, ast.Expr):
        return eval(compile(ast.Expression(row.value), "README.md", "eval"), names)
    exec(compile(ast.Module([row], []), "README.md", "exec"), names)
    if isinstance(row, ast.Assign) and isinstance(row.targets[0], ast.Name):
        return names[row.targets[0].id]
    return None


class Shown(unittest.TestCase):

    def test_each_row_tells_what_its_remark_shows(self):
        names, compared = {}, 0
        for block in re.findall(r"```python\n(.*?)```", README.read_text(), re.DOTALL):
            lines = block.splitlines()
            for row in ast.parse(block).body:
                told = told_value(row, names)
                shown = shown_value(lines[row.end_lineno - 1][row.end_col_offset:].partition("#")[2])
                if shown:
                    with self.subTest(row=ast.unparse(row)):
                        self.assertEqual([told], shown)
                        compared += 1
        self.assertGreater(compared, 5)


if __name__ == "__main__":
    unittest.main()
