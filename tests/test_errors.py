"""errors.py: the classes and how they stand to each other."""

import unittest

from keepwhole.errors import BadRow, KeepError, Loop, NoMake


class Errors(unittest.TestCase):
    def test_keep_error_stands_under_value_error(self):
        self.assertEqual(KeepError.__bases__, (ValueError,))

    def test_each_stands_straight_under_keep_error(self):
        for refused in (NoMake, Loop, BadRow):
            self.assertEqual(refused.__bases__, (KeepError,))

    def test_none_is_caught_as_another(self):
        for made in (NoMake("no make"), Loop("loop"), BadRow(1)):
            for other in (NoMake, Loop, BadRow):
                self.assertEqual(isinstance(made, other), type(made) is other)

    def test_made_with_words(self):
        for refused in (KeepError, NoMake, Loop):
            with self.assertRaises(KeepError) as caught:
                raise refused("some words")
            self.assertIs(type(caught.exception), refused)
            self.assertIsInstance(caught.exception, ValueError)

    def test_bad_row_has_its_row(self):
        first = BadRow(3)
        second = BadRow(0)
        self.assertEqual((first.row, second.row), (3, 0))
        self.assertIs(type(first.row), int)
        with self.assertRaises(ValueError) as caught:
            raise BadRow(79)
        self.assertEqual(caught.exception.row, 79)


if __name__ == "__main__":
    unittest.main()
