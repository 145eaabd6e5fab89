"""The examples of README.md."""

import doctest
import pathlib
import unittest

README = pathlib.Path(__file__).resolve().parent.parent / "README.md"


class TestReadme(unittest.TestCase):
    def test_examples(self):
        found = doctest.testfile(str(README), module_relative=False)
        self.assertEqual(found.failed, 0)
        self.assertGreater(found.attempted, 20)
