"""What README.md shows is what the program tells."""

import doctest
import unittest


class Readme(unittest.TestCase):
    def test_examples(self):
        told = doctest.testfile("../README.md")
        self.assertGreater(told.attempted, 0)
        self.assertEqual(told.failed, 0)


if __name__ == "__main__":
    unittest.main()
