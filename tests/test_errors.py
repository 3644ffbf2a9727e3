import unittest

from linehold import errors


class TheErrors(unittest.TestCase):
    def test_line_error_is_straight_under_value_error(self):
        self.assertEqual(errors.LineError.__bases__, (ValueError,))

    def test_the_three_are_straight_under_line_error(self):
        for error in (errors.BadPlaces, errors.BadLines, errors.BadTakings):
            self.assertEqual(error.__bases__, (errors.LineError,))

    def test_they_are_defined_in_errors(self):
        for name in ("LineError", "BadPlaces", "BadLines", "BadTakings"):
            error = getattr(errors, name)
            self.assertEqual((error.__module__, error.__name__), ("linehold.errors", name))


if __name__ == "__main__":
    unittest.main()
