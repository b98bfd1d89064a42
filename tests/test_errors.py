"""Point 2 and the interface's row of errors."""

import unittest

from tests.sets import REFUSALS
from throng import errors


class Errors(unittest.TestCase):
    def test_base(self):
        self.assertEqual(errors.ThrongError.__bases__, (ValueError,))

    def test_each_stands_straight_under_the_base(self):
        for name in REFUSALS:
            self.assertEqual(getattr(errors, name).__bases__, (errors.ThrongError,), name)

    def test_none_stands_under_another(self):
        for one in REFUSALS:
            for other in REFUSALS:
                under = issubclass(getattr(errors, one), getattr(errors, other))
                self.assertEqual(under, one == other, (one, other))

    def test_names_are_the_classes_own(self):
        for name in REFUSALS + ["ThrongError"]:
            self.assertEqual(getattr(errors, name).__name__, name)

    def test_raised_with_and_without_words(self):
        for name in REFUSALS + ["ThrongError"]:
            kind = getattr(errors, name)
            for error in (kind, kind(), kind("words of its own")):
                with self.assertRaises(errors.ThrongError) as caught:
                    raise error
                self.assertIs(type(caught.exception), kind)
