"""The examples in README.md can be run."""

import pathlib
import re
import unittest

README = pathlib.Path(__file__).resolve().parent.parent / "README.md"


class ReadmeTest(unittest.TestCase):
    def test_examples(self):
        blocks = re.findall(r"```python\n(.*?)```", README.read_text(encoding="utf-8"), re.DOTALL)
        self.assertGreaterEqual(len(blocks), 5)
        names = {}
        for block in blocks:
            exec(block, names)
        self.assertEqual(names["desk"].kept(), ["reach"])

    def test_each_file_of_the_package_is_named(self):
        text = README.read_text(encoding="utf-8")
        for path in (README.parent / "goalstead").glob("*.py"):
            if path.name != "__init__.py":
                self.assertIn(f"| `{path.name}` |", text)


if __name__ == "__main__":
    unittest.main()
