"""What README.md shows is what the program answers."""

import doctest
import pathlib
import unittest

README = pathlib.Path(__file__).resolve().parent.parent / "README.md"


class Readme(unittest.TestCase):
    def test_examples(self):
        told = doctest.testfile(str(README), module_relative=False, encoding="utf-8")
        self.assertGreater(told.attempted, 0)
        self.assertEqual(told.failed, 0)
