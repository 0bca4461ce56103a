import unittest

from bedround.errors import BadGarden, BedError, NoPlanting


class ErrorsTest(unittest.TestCase):
    def test_bed_error_stands_straight_under_value_error(self):
        self.assertEqual(BedError.__bases__, (ValueError,))

    def test_each_refusal_stands_straight_under_bed_error(self):
        self.assertEqual(BadGarden.__bases__, (BedError,))
        self.assertEqual(NoPlanting.__bases__, (BedError,))

    def test_no_refusal_is_another(self):
        self.assertFalse(issubclass(BadGarden, NoPlanting))
        self.assertFalse(issubclass(NoPlanting, BadGarden))


if __name__ == "__main__":
    unittest.main()
