"""The examples of README.md: each expression has the value that stands behind it."""

import ast
import contextlib
import io
import pathlib
import re
import unittest

README = pathlib.Path(__file__).resolve().parent.parent / "README.md"


class ReadmeTest(unittest.TestCase):
    def test_examples(self):
        code = "\n".join(re.findall(r"```python\n(.*?)```", README.read_text(encoding="utf-8"), re.S))
        lines = code.split("\n")
        names = {}
        checked = 0
        for node in ast.parse(code).body:
            text = "\n".join(lines[node.lineno - 1:node.end_lineno])
            behind = (lines[node.end_lineno - 1] + "\n" + "".join(lines[node.end_lineno:node.end_lineno + 1]))
            if isinstance(node, ast.Expr):
                value = eval(ast.unparse(node), names)
                if value is not None:
                    self.assertIn("# " + repr(value), behind)
                    checked += 1
            else:
                with contextlib.redirect_stdout(io.StringIO()):
                    exec(text, names)
        self.assertGreater(checked, 20)


if __name__ == "__main__":
    unittest.main()
