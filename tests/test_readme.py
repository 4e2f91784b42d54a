import ast
import os
import re
import unittest

README = os.path.join(os.path.dirname(os.path.dirname(os.path.abspath(__file__))), "README.md")


class Readme(unittest.TestCase):
    def test_each_row_tells_what_stands_behind_it(self):
        with open(README, encoding="utf-8") as file:
            text = "".join(re.findall(r"```python\n(.*?)```", file.read(), re.S))
        there, lines, tried = {}, text.split("\n"), 0
        for node in ast.parse(text).body:
            if not isinstance(node, ast.Expr):
                exec(compile(ast.Module([node], []), README, "exec"), there)
                continue
            found = eval(compile(ast.Expression(node.value), README, "eval"), there)
            # What a row tells stands behind it, or alone on the next one.
            row, below = lines[node.end_lineno - 1], lines[node.end_lineno]
            told = below[2:] if below.startswith("# ") else row.partition("  # ")[2]
            self.assertEqual(found, eval(told, there), row)
            tried += 1
        self.assertGreater(tried, 10)


if __name__ == "__main__":
    unittest.main()
