"""What README.md shows is what the program answers."""

import ast
import pathlib
import re
import unittest

README = pathlib.Path(__file__).resolve().parent.parent / "README.md"


def shown():
    """Pairs of an expression and the value under it, with what was bound above it."""
    for block in re.findall(r"```python\n(.*?)```", README.read_text(encoding="ascii"), re.DOTALL):
        bound, rows = {}, block.split("\n")
        for row, following in zip(rows, rows[1:]):
            if following.startswith("# ") and row and not row.startswith("#"):
                yield row, eval(row, bound), ast.literal_eval(following[2:])
            else:
                exec(row, bound)


class TheReadme(unittest.TestCase):

    def test_what_it_shows(self):
        pairs = list(shown())
        self.assertGreater(len(pairs), 10)
        for row, told, wanted in pairs:
            self.assertEqual(told, wanted, row)


if __name__ == "__main__":
    unittest.main()
