"""The examples of README.md."""

import doctest
import pathlib
import unittest

PAGE = pathlib.Path(__file__).resolve().parent.parent / "README.md"


class Readme(unittest.TestCase):

    def test_examples(self):
        found = doctest.testfile(str(PAGE), module_relative=False)
        self.assertGreater(found.attempted, 15)
        self.assertEqual(found.failed, 0)


if __name__ == "__main__":
    unittest.main()
