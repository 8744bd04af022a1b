"""The examples of the document, word for word."""

import doctest
import os
import unittest

HERE = os.path.dirname(os.path.abspath(__file__))
DOCUMENT = os.path.join(os.path.dirname(os.path.dirname(HERE)), "shared", "DOC.md")


class Examples(unittest.TestCase):
    def run_all(self, path):
        told = doctest.testfile(path, module_relative=False)
        self.assertEqual(0, told.failed)
        return told.attempted

    def test_copies(self):
        self.assertEqual(54, self.run_all(os.path.join(HERE, "examples.txt")))

    def test_document(self):
        if not os.path.exists(DOCUMENT):
            self.skipTest("the document is not beside this checkout")
        self.assertGreater(self.run_all(DOCUMENT), 0)


if __name__ == "__main__":
    unittest.main()
