"""What README.md shows of the program is what the program does."""

import doctest
import pathlib
import unittest

README = pathlib.Path(__file__).resolve().parent.parent / "README.md"


class Readme(unittest.TestCase):
    def test_its_examples(self):
        failed, tried = doctest.testfile(str(README), module_relative=False)
        self.assertGreater(tried, 0)
        self.assertEqual(failed, 0)
