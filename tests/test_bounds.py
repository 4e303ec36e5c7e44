"""The bounds of the interface."""

import unittest

from goalstead import bounds


class BoundsTest(unittest.TestCase):
    def test_each_bound(self):
        wanted = {
            "SIZE": 60, "DEEP": 12, "FIGURES": 60, "PIECES": 200,
            "BRACKETS": 12, "LINES": 60, "POINTS": 400, "MOST": 200,
        }
        for name, worth in wanted.items():
            with self.subTest(name):
                self.assertEqual(getattr(bounds, name), worth)


if __name__ == "__main__":
    unittest.main()
