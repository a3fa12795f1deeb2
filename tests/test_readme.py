"""The examples of README.md give just what stands there."""
import doctest
import pathlib
import unittest

README = pathlib.Path(__file__).resolve().parent.parent / "README.md"


class ReadmeTest(unittest.TestCase):
    def test_the_examples(self):
        result = doctest.testfile(str(README), module_relative=False)
        self.assertEqual(result.failed, 0)
        self.assertGreater(result.attempted, 20)


if __name__ == "__main__":
    unittest.main()
