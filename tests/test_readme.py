"""The examples in README.md."""

import doctest
import pathlib
import unittest

README = pathlib.Path(__file__).resolve().parent.parent / "README.md"


class ReadmeTest(unittest.TestCase):

    def test_examples(self):
        results = doctest.testfile(str(README), module_relative=False)
        self.assertEqual(results.failed, 0)
        self.assertGreaterEqual(results.attempted, 12)


if __name__ == "__main__":
    unittest.main()
