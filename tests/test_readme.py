"""What README.md shows is what the program answers."""

import doctest
import os
import unittest

README = os.path.join(os.path.dirname(os.path.abspath(__file__)), "..", "README.md")


class Readme(unittest.TestCase):
    def test_its_example_holds(self):
        failed, tried = doctest.testfile(README, module_relative=False, encoding="utf-8")
        self.assertEqual(failed, 0)
        self.assertGreater(tried, 0)


if __name__ == "__main__":
    unittest.main()
