"""The examples of README.md answer as they are written."""

import doctest
import unittest
from pathlib import Path

README = Path(__file__).resolve().parent.parent / "README.md"


class Readme(unittest.TestCase):
    def test_examples(self):
        found = doctest.testfile(str(README), module_relative=False)
        self.assertGreater(found.attempted, 10)
        self.assertEqual(found.failed, 0)
