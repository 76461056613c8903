"""The examples of README.md tell what they are said to tell."""

import contextlib
import io
import pathlib
import re
import unittest

README = pathlib.Path(__file__).resolve().parent.parent / "README.md"


class ReadmeTest(unittest.TestCase):
    def test_examples(self):
        names = {}
        blocks = re.findall("```python\n(.*?)```", README.read_text(), re.S)
        self.assertGreaterEqual(len(blocks), 5)
        for block in blocks:
            told = io.StringIO()
            with contextlib.redirect_stdout(told):
                exec(block, names)
            self.assertEqual(told.getvalue().splitlines(), re.findall("(?m)^# (.*)$", block))

    def test_each_file_is_named(self):
        text = README.read_text()
        for path in (README.parent / "roadsall").glob("[a-z]*.py"):
            self.assertIn(f"`roadsall/{path.name}`", text)


if __name__ == "__main__":
    unittest.main()
