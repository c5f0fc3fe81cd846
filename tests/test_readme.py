"""The examples of README.md: each value that stands behind a call as a comment is what the call gives."""

import ast
import contextlib
import io
import pathlib
import re
import unittest

README = pathlib.Path(__file__).resolve().parent.parent / "README.md"


def told_value(line):
    """The value that the comment of a line tells, in a list, or an empty list if it tells none."""
    try:
        return [ast.literal_eval(line.partition("# ")[2])]
    except (SyntaxError, ValueError):
        return []


class ReadmeTest(unittest.TestCase):
    def test_every_example(self):
        names = {}
        compared = 0
        for block in re.findall(r"```python\n(.*?)```", README.read_text(), re.S):
            lines = block.split("\n")
            for node in ast.parse(block).body:
                if not isinstance(node, ast.Expr):
                    with contextlib.redirect_stdout(io.StringIO()):
                        exec(compile(ast.Module([node], []), "README", "exec"), names)
                    continue
                value = eval(compile(ast.Expression(node.value), "README", "eval"), names)
                for wanted in told_value(lines[node.end_lineno - 1]):
                    self.assertEqual(value, wanted, lines[node.end_lineno - 1])
                    compared += 1
        self.assertGreater(compared, 15)

    def test_each_file_is_named(self):
        text = README.read_text()
        for path in sorted((README.parent / "clockverdict").glob("*.py")):
            if path.name != "__init__.py":
                self.assertIn(f"`clockverdict/{path.name}`", text)


if __name__ == "__main__":
    unittest.main()
