"""The examples of README.md can be run as they stand there."""

import contextlib
import io
import pathlib
import re
import unittest

README = pathlib.Path(__file__).resolve().parent.parent / "README.md"


def simple_claims(block):
    """Return the pairs of an expression and what a comment says of it, of the lines behind which nothing changes it."""
    found = re.findall(r"^([^#\n =][^#\n]*?)  +# (.+)$", block, re.MULTILINE)
    return [(told, wanted) for told, wanted in found if not re.match(r"\w+ = ", told)]


class Readme(unittest.TestCase):
    def test_examples(self):
        names, checked = {}, 0
        for block in re.findall(r"```python\n(.*?)```", README.read_text("ascii"), re.DOTALL):
            lines = block.split("\n")
            for at, line in enumerate(lines):
                claim = simple_claims(line)
                if claim:
                    # Whatever the lines ahead made is as they left it.
                    scope = dict(names)
                    with contextlib.redirect_stdout(io.StringIO()):
                        exec("\n".join(lines[:at]), scope)
                    told = repr(eval(claim[0][0], scope))
                    self.assertEqual(told, claim[0][1].split(": it")[0], line)
                    checked += 1
            with contextlib.redirect_stdout(io.StringIO()):
                exec(block, names)
        self.assertGreater(checked, 25)


if __name__ == "__main__":
    unittest.main()
