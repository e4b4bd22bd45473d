"""The sessions of README.md."""

import doctest
import unittest
from pathlib import Path

README = Path(__file__).resolve().parent.parent / "README.md"


class Readme(unittest.TestCase):
    def test_sessions(self):
        results = doctest.testfile(str(README), module_relative=False, verbose=False)
        self.assertGreater(results.attempted, 10)
        self.assertEqual(results.failed, 0)


if __name__ == "__main__":
    unittest.main()
