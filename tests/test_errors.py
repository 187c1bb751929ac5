"""The error classes."""

import unittest

from tornrelay import errors

NAMES = (
    "NoText NoBody NoSlip Busy NoBook NoHung NoNumber NoNet NoHouse HouseDown HouseUp NoRank NoWays TooMany "
    "NoChannel Shut Nothing NoLine TooLate NoMessage NoDay NoSaying"
).split()


class ErrorClasses(unittest.TestCase):
    def test_relay_error_is_under_value_error(self):
        self.assertEqual(errors.RelayError.__bases__, (ValueError,))

    def test_each_other_class_stands_straight_under_relay_error(self):
        for name in NAMES:
            with self.subTest(name):
                self.assertEqual(getattr(errors, name).__bases__, (errors.RelayError,))
                self.assertEqual(getattr(errors, name).__name__, name)

    def test_no_class_stands_under_another(self):
        classes = [getattr(errors, name) for name in NAMES]
        self.assertEqual(len(set(classes)), 22)
        for one in classes:
            self.assertEqual([other for other in classes if issubclass(one, other)], [one])

    def test_each_class_but_no_book_is_made_with_words(self):
        for name in ["RelayError"] + NAMES:
            if name != "NoBook":
                with self.subTest(name):
                    self.assertEqual(str(getattr(errors, name)("why")), "why")

    def test_no_book_has_the_value_where(self):
        for where in (-1, 0, 17):
            with self.assertRaises(errors.RelayError) as caught:
                raise errors.NoBook(where)
            self.assertEqual(caught.exception.where, where)


if __name__ == "__main__":
    unittest.main()
