"""The refusals: interface, creditworks/errors.py."""

import unittest

from creditworks import errors
from creditworks.errors import CreditError, Overdrawn

NAMES = ("NoNumber", "Overdrawn", "Empty", "NoThing", "Lacking", "AtTop",
         "NoPlace", "Mixed", "NoName", "Twice", "NotLess", "NoRow")
WORDED = tuple(name for name in NAMES if name != "Overdrawn")


class TheRefusals(unittest.TestCase):
    def test_credit_error_is_a_value_error(self):
        self.assertTrue(issubclass(CreditError, ValueError))
        with self.assertRaises(ValueError):
            raise CreditError("words")

    def test_each_stands_under_credit_error(self):
        for name in NAMES:
            kind = getattr(errors, name)
            self.assertEqual(kind.__name__, name)
            self.assertIsNot(kind, CreditError)
            self.assertTrue(issubclass(kind, CreditError), name)
            self.assertTrue(issubclass(kind, ValueError), name)

    def test_none_stands_under_another(self):
        for name in NAMES:
            for other in NAMES:
                if name != other:
                    self.assertFalse(issubclass(getattr(errors, name), getattr(errors, other)), (name, other))

    def test_made_of_nothing_or_of_words(self):
        for name in ("CreditError",) + WORDED:
            kind = getattr(errors, name)
            for made in (kind(), kind("some words")):
                with self.assertRaises(kind):
                    raise made
                with self.assertRaises(CreditError):
                    raise made
                with self.assertRaises(ValueError):
                    raise made

    def test_overdrawn_is_made_of_its_field(self):
        for by in (1, 2, 10 ** 60 - 1):
            made = Overdrawn(by)
            self.assertEqual(made.by, by)
            with self.assertRaises(CreditError) as told:
                raise made
            self.assertEqual(told.exception.by, by)
        self.assertEqual(Overdrawn(by=7).by, 7)
        with self.assertRaises(TypeError):
            Overdrawn()


if __name__ == "__main__":
    unittest.main()
