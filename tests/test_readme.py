"""What README.md shows is what the program returns."""

import doctest
import pathlib
import unittest

README = pathlib.Path(__file__).resolve().parent.parent / "README.md"


class Examples(unittest.TestCase):
    def test_examples(self):
        told = doctest.testfile(str(README), module_relative=False, encoding="utf-8")
        self.assertEqual(told.failed, 0)
        self.assertGreater(told.attempted, 60)


if __name__ == "__main__":
    unittest.main()
