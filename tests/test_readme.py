"""The examples of README.md."""

import doctest
import unittest
from pathlib import Path


class ReadmeTests(unittest.TestCase):
    def test_examples(self):
        path = Path(__file__).resolve().parent.parent / "README.md"
        found = doctest.testfile(str(path), module_relative=False)
        self.assertEqual(found.failed, 0)
        self.assertGreater(found.attempted, 10)
