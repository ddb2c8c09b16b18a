"""The interface, its section on listmarks/errors.py."""

import unittest

from listmarks import errors


class Errors(unittest.TestCase):
    def test_the_first_is_straight_under_value_error(self):
        self.assertEqual(errors.MarkError.__bases__, (ValueError,))

    def test_the_others_are_straight_under_the_first(self):
        for name in ("BadOutline", "BadManner", "BadNumber", "BadItem", "BadText", "NoItem", "BadDeed"):
            with self.subTest(name):
                self.assertEqual(getattr(errors, name).__bases__, (errors.MarkError,))
                self.assertEqual(getattr(errors, name).__name__, name)

    def test_there_is_no_other(self):
        classes = [name for name in vars(errors) if isinstance(getattr(errors, name), type)]
        self.assertEqual(len(classes), 8)


if __name__ == "__main__":
    unittest.main()
