"""What README.md shows is what the program answers."""

import doctest
import pathlib
import unittest

README = pathlib.Path(__file__).resolve().parent.parent / "README.md"


class Readme(unittest.TestCase):
    def test_its_examples(self):
        told = doctest.testfile(str(README), module_relative=False)
        self.assertEqual(told.failed, 0)
        self.assertGreater(told.attempted, 20)


if __name__ == "__main__":
    unittest.main()
