"""The examples of README.md and of the document's interface give just what stands there."""
import doctest
import pathlib
import unittest

TESTS = pathlib.Path(__file__).resolve().parent


class ExamplesTest(unittest.TestCase):
    def assert_examples(self, path, many):
        result = doctest.testfile(str(path), module_relative=False)
        self.assertEqual(result.failed, 0)
        self.assertGreater(result.attempted, many)

    def test_those_of_the_readme(self):
        self.assert_examples(TESTS.parent / "README.md", 60)

    def test_those_of_the_interface(self):
        self.assert_examples(TESTS / "examples.txt", 120)


if __name__ == "__main__":
    unittest.main()
