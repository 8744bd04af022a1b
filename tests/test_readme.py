"""The examples of README.md."""

import doctest
import os
import unittest


class Readme(unittest.TestCase):
    def test_examples(self):
        path = os.path.join(os.path.dirname(os.path.dirname(os.path.abspath(__file__))), "README.md")
        told = doctest.testfile(path, module_relative=False)
        self.assertEqual(0, told.failed)
        self.assertGreater(told.attempted, 10)


if __name__ == "__main__":
    unittest.main()
