"""The examples of README.md run, one after the other."""

import ast
import os
import re
import unittest

README = os.path.join(os.path.dirname(os.path.dirname(os.path.abspath(__file__))), "README.md")


class ReadmeTests(unittest.TestCase):
    def test_examples(self):
        with open(README) as file:
            blocks = re.findall("```python\n(.*?)```", file.read(), re.S)
        self.assertGreater(len(blocks), 5)
        space = {}
        for block in blocks:
            lines = block.split("\n")
            for node in ast.parse(block).body:
                if not isinstance(node, ast.Expr):
                    exec(compile(ast.Module([node], []), README, "exec"), space)
                    continue
                found = eval(compile(ast.Expression(node.value), README, "eval"), space)
                # A comment begins with the value, if it tells one that can be written down.
                told = lines[node.end_lineno - 1].partition("  # ")[2]
                if re.match(r"[\[({\"0-9]|True|False|None", told):
                    self.assertTrue(told.replace('"', "'").startswith(repr(found)), (told, found))
