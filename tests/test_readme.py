"""The answers that README.md tells are those of the program."""
import ast
import pathlib
import re
import unittest

README = pathlib.Path(__file__).resolve().parent.parent / "README.md"


def blocks():
    return re.findall(r"```python\n(.*?)```", README.read_text(), re.DOTALL)


class Readme(unittest.TestCase):
    def test_each_answer(self):
        names = {}
        count = 0
        for block in blocks():
            lines = block.split("\n")
            for node in ast.parse(block).body:
                source = ast.get_source_segment(block, node)
                if not isinstance(node, ast.Expr):
                    exec(source, names)
                    continue
                told = lines[node.lineno - 1].split("# ")[1].split(": ")[0]
                self.assertEqual(repr(eval(source, names)), told.strip(), source)
                count += 1
        self.assertGreater(count, 15)


if __name__ == "__main__":
    unittest.main()
