import unittest

from chairclans import errors
from tests.helper import REFUSALS


class Errors(unittest.TestCase):
    def test_any_refusal_is_a_value_error(self):
        self.assertTrue(issubclass(errors.ClanError, ValueError))

    def test_each_refusal_is_a_clan_error(self):
        self.assertEqual(len(REFUSALS), 14)
        for kind in REFUSALS:
            with self.subTest(kind.__name__):
                self.assertTrue(issubclass(kind, errors.ClanError))
                self.assertIsNot(kind, errors.ClanError)

    def test_none_stands_under_another(self):
        for kind in REFUSALS:
            for other in REFUSALS:
                with self.subTest(f"{kind.__name__} {other.__name__}"):
                    self.assertEqual(issubclass(kind, other), kind is other)

    def test_the_names_are_the_told_ones(self):
        for kind in REFUSALS:
            self.assertIs(getattr(errors, kind.__name__), kind)

    def test_each_can_be_raised_with_words(self):
        for kind in REFUSALS:
            with self.assertRaises(errors.ClanError):
                raise kind("words")
