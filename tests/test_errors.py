"""The errors of the interface."""

import unittest

from sortpost.errors import BadHouse, BadLetter, BadName, BadRule, BadText, NoLetter, SortError, TooMany
from sortpost.rules import written


class Errors(unittest.TestCase):

    def test_straight_under_one_another(self):
        self.assertEqual(SortError.__bases__, (ValueError,))
        for error in (BadRule, BadText, BadLetter, BadName, BadHouse, TooMany, NoLetter):
            self.assertEqual(error.__bases__, (SortError,))

    def test_fields(self):
        with self.assertRaises(BadRule) as caught:
            written("if any then stop\n\nif any then file\n")
        self.assertEqual((caught.exception.row, caught.exception.word), (2, 4))
        self.assertTrue(str(caught.exception))


if __name__ == "__main__":
    unittest.main()
