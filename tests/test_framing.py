"""Point 8: the frame of a body."""

import unittest

from tests.things import OTHER_THINGS, spelled_frame
from tornrelay.errors import NoBody
from tornrelay.frames import framed


class Frames(unittest.TestCase):
    def test_how_many_rows_there_are(self):
        told = {
            1: [1, 30, 2, 29], 29: [1, 30, 30, 1], 30: [2, 29, 1, 30], 31: [2, 29, 2, 29],
            599: [20, 11, 30, 1], 600: [21, 10, 1, 30],
        }
        for many, rows in told.items():
            for row in (1, 3, 14, 30):
                frame = framed([row] * many)
                self.assertEqual(frame[:4], rows)
                self.assertEqual(frame[7:], [row] * many + [0])

    def test_holes_not_punched(self):
        told = [
            ([30], [1, 1, 2]),
            ([1], [1, 1, 5]),
            ([30] * 29, [1, 1, 30]),
            ([30] * 30, [1, 2, 1]),
            ([1] * 7 + [30], [1, 1, 30]),
            ([1] * 224 + [7, 30], [1, 30, 30]),
            ([1] * 225, [2, 1, 1]),
            ([30] * 600, [1, 21, 1]),
            ([1] * 449 + [3], [2, 30, 30]),
            ([1] * 450, [3, 1, 1]),
            ([1] * 599 + [3], [3, 20, 30]),
            ([1] * 600, [3, 21, 1]),
        ]
        for body, rows in told:
            self.assertEqual(framed(body)[4:7], rows)

    def test_each_row_counts_its_own_holes(self):
        for row in range(1, 31):
            self.assertEqual(framed([row])[6], 6 - f"{row:b}".count("1"))

    def test_whole_frames(self):
        self.assertEqual(framed([5]), [1, 30, 2, 29, 1, 1, 4, 5, 0])
        self.assertEqual(framed([1, 2, 30]), [1, 30, 4, 27, 1, 1, 10, 1, 2, 30, 0])
        for many in range(1, 601):
            body = [place * many % 30 + 1 for place in range(many)]
            self.assertEqual(framed(body), spelled_frame(body))

    def test_no_row_but_the_last_is_0_and_none_31(self):
        for many in range(1, 601):
            for row in (1, 15, 30):
                frame = framed([row] * many)
                self.assertEqual((min(frame[:-1]) > 0, max(frame) < 31, frame[-1]), (True, True, 0))


class Refused(unittest.TestCase):
    def check(self, *things):
        for thing in things:
            with self.assertRaises(NoBody, msg=repr(thing)[:60]):
                framed(thing)

    def test_too_few_and_too_many_rows(self):
        self.check([], [1] * 601, [30] * 1500)

    def test_rows_out_of_bounds(self):
        for row in (0, 31, -1, -30, 32, 10 ** 60 - 1):
            self.check([row], [row, 1], [1, row, 1], [1, row])

    def test_rows_that_are_no_whole_numbers(self):
        for row in (True, False, None, "a", "1", [1], (1,), []):
            self.check([row], [row, 1], [1, row, 1], [1, row])

    def test_things_that_are_no_lists(self):
        self.check(*OTHER_THINGS, (1, 2, 3), tuple([1] * 30), "a", "", "abc")


if __name__ == "__main__":
    unittest.main()
