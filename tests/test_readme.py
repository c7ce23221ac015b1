"""What README.md shows: each row with an answer behind it tells just this."""

import ast
import pathlib
import unittest

from tests.support import HallCase

README = pathlib.Path(__file__).parent.parent / "README.md"


def blocks():
    """The pieces of code in README.md."""
    parts = README.read_text().split("```python\n")[1:]
    return [part.split("```")[0] for part in parts]


class Readme(HallCase):

    def test_all_that_it_shows(self):
        names, shown = {}, 0
        for block in blocks():
            rows = block.split("\n")
            for statement in ast.parse(block).body:
                answer = rows[statement.end_lineno - 1].partition("  # ")[2]
                if isinstance(statement, ast.Expr):
                    told = eval(compile(ast.Expression(statement.value), "README.md", "eval"), names)
                    if answer:
                        self.same(told, eval(answer))
                        shown += 1
                else:
                    exec(compile(ast.Module([statement], []), "README.md", "exec"), names)
        self.assertGreater(shown, 30)


if __name__ == "__main__":
    unittest.main()
