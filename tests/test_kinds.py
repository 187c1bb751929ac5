"""Point 2: what a whole number is."""

import unittest

from tornrelay.kinds import is_whole, is_whole_within


class WholeNumbers(unittest.TestCase):
    def test_ints_are_whole_numbers(self):
        for thing in (0, 1, -1, 31, 10 ** 60 - 1, -(10 ** 60 - 1)):
            self.assertIs(is_whole(thing), True)

    def test_truths_and_other_things_are_none(self):
        for thing in (True, False, None, "", "1", [], [1], (), (1,)):
            self.assertIs(is_whole(thing), False)

    def test_bounds_belong_to_what_is_within(self):
        told = [is_whole_within(number, 1, 3) for number in range(-1, 6)]
        self.assertEqual(told, [False, False, True, True, True, False, False])

    def test_what_is_no_whole_number_is_not_within(self):
        for thing in (True, False, None, "1", [1], (1,)):
            self.assertIs(is_whole_within(thing, 0, 3), False)


if __name__ == "__main__":
    unittest.main()
