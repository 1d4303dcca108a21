"""The examples of README.md tell what the program tells."""

import pathlib
import re
import unittest

README = pathlib.Path(__file__).resolve().parent.parent / "README.md"
# What is told stands at the begin of a comment, words of their own behind it.
TOLD = re.compile(r"(True|False|None|Vine\(|[-\d(\['\"])")


def blocks():
    return re.findall(r"```python\n(.*?)```", README.read_text(encoding="utf-8"), re.DOTALL)


class Examples(unittest.TestCase):
    def test_each_tells_what_is_written_there(self):
        checked = 0
        for block in blocks():
            names = {}
            for row in block.split("\n"):
                code, _, comment = row.partition(" # ")
                name, is_kept, ask = re.fullmatch(r"(?:(\w+)( = ))?(.*)", code.strip()).groups()
                if not ask or ask.startswith("from "):
                    exec(ask, names)
                    continue
                told = eval(ask, names)
                if is_kept:
                    names[name] = told
                if TOLD.match(comment):
                    checked += 1
                    self.assertTrue(comment.replace('"', "'").startswith(repr(told)), (row, told))
        self.assertGreater(checked, 50)


if __name__ == "__main__":
    unittest.main()
