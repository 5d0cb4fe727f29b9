"""The examples of README.md are true."""

import doctest
import pathlib
import unittest

README = pathlib.Path(__file__).resolve().parent.parent / "README.md"


class Examples(unittest.TestCase):
    def test_each_example(self):
        found = doctest.testfile(str(README), module_relative=False, encoding="utf-8")
        self.assertEqual(found.failed, 0)
        self.assertGreater(found.attempted, 10)


if __name__ == "__main__":
    unittest.main()
