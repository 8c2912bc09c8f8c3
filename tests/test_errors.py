"""The interface's refusals: each class under HoldError and ValueError, none under another."""

import unittest

from knownholds.errors import Faulty, HoldError, NoSpot, NoTable, NoText, NoThing, NotFormed

REFUSALS = [NoSpot, NoThing, NoText, NotFormed, NoTable, Faulty]


class ErrorsTest(unittest.TestCase):
    def test_hold_error_stands_straight_under_value_error(self):
        self.assertEqual(HoldError.__bases__, (ValueError,))

    def test_each_stands_under_hold_error_and_value_error(self):
        for refusal in REFUSALS:
            with self.subTest(refusal=refusal.__name__):
                self.assertTrue(issubclass(refusal, HoldError))
                self.assertTrue(issubclass(refusal, ValueError))
                self.assertIsNot(refusal, HoldError)

    def test_none_stands_under_another(self):
        for one in REFUSALS:
            for other in REFUSALS:
                with self.subTest(one=one.__name__, other=other.__name__):
                    self.assertEqual(issubclass(one, other), one is other)

    def test_none_stands_under_a_lookup_or_key_error(self):
        for refusal in REFUSALS:
            self.assertFalse(issubclass(refusal, LookupError))

    def test_each_is_raised_and_taken_as_hold_error(self):
        for refusal in REFUSALS[:-1]:
            with self.assertRaises(HoldError):
                raise refusal("why")

    def test_faulty_has_its_three_fields(self):
        error = Faulty(2, 17, 9)
        self.assertEqual((error.f, error.at, error.p), (2, 17, 9))
        with self.assertRaises(Faulty) as caught:
            raise error
        self.assertEqual((caught.exception.f, caught.exception.at, caught.exception.p), (2, 17, 9))

    def test_two_faulty_are_apart(self):
        one = Faulty(0, 0, 0)
        other = Faulty(7, 39, 23)
        self.assertEqual((one.f, one.at, one.p), (0, 0, 0))
        self.assertEqual((other.f, other.at, other.p), (7, 39, 23))
