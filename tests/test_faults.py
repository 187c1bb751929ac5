"""Points 6 and 7: faults of a tape, the reach of a place, and hits."""

import itertools
import unittest

from tornrelay.code import faults, hit_tape, punch, reach, read_tape, said_by_rows
from tornrelay.errors import NoText


def is_as_punched(tape):
    try:
        return punch(read_tape(tape)) == tape
    except NoText:
        return False


class Faults(unittest.TestCase):
    def check(self, *told):
        for tape, places in told:
            self.assertEqual(faults(tape), places, tape)

    def test_blank(self):
        self.check(([0], [0]), ([0, 1, 2], [0]), ([1, 0, 2], [1]), ([1, 2, 0], [2]), ([30, 1, 0], [2]))

    def test_rubbed_out(self):
        self.check(([31], [0]), ([31, 1, 2], [0]), ([1, 31, 2], [1]), ([1, 2, 31], [2]), ([30, 1, 31], [2]))

    def test_what_no_figure_stands_for(self):
        for row in (22, 23, 24, 25, 26):
            self.check(
                ([30, row], [1]), ([30, row, 1], [1]), ([30, 1, row, 1], [2]), ([30, 1, 27, row], [3]),
                ([row], []), ([30, 1, 29, row], []),
            )
        self.check(([30, 21], []), ([30, 1], []))

    def test_29_where_letters_are_read(self):
        self.check(([29, 1], [0]), ([1, 29, 1], [1]), ([30, 1, 29, 1, 29, 1], [4]), ([1, 29], [1]))

    def test_30_where_figures_are_read(self):
        self.check(([30, 30, 1], [0, 1]), ([30, 1, 30, 1], [2]), ([30, 1, 2, 30], [3]), ([30, 1, 27, 30, 1, 2], [3]))

    def test_30_with_another_row_behind(self):
        # A 29 behind turns the figures of the 30 to letters again, so it is no fault of its own.
        for row, more in ((0, [1]), (27, []), (28, []), (29, []), (30, [1]), (31, [1])):
            self.check(([30, row, 1], [0] + more), ([1, 30, row, 1], [1] + [place + 1 for place in more]))

    def test_29_with_another_row_behind(self):
        # A 30 behind turns the letters of the 29 to figures again, so it is no fault of its own.
        for row, more in ((0, [3]), (27, []), (28, []), (29, [3]), (30, []), (31, [3])):
            self.check(([30, 1, 29, row, 1], [2] + more))

    def test_shift_with_no_row_behind(self):
        self.check(([29], [0]), ([30], [0]), ([1, 30], [1]), ([30, 1, 29], [2]))

    def test_each_row_that_a_shift_may_stand_ahead_of(self):
        for row in range(1, 27):
            self.check(([30, 1, 29, row], []), ([30, row], [] if row < 22 else [1]))

    def test_several_faults_rise(self):
        self.check(([0, 31, 29, 30, 22, 30, 30], [0, 1, 2, 4, 5, 6]), ([], []), ([0] * 1500, list(range(1500))))

    def test_punched_tapes_have_none(self):
        for text in ("", "a", "1", " |", "a1b2 c|3 ", "1 a", "no. 3: 4 of 7|at 9 (nine)|", "a1" * 200, "z'" * 200):
            self.assertEqual(faults(punch(text)), [], text)

    def test_none_just_where_a_tape_is_as_punched(self):
        for many in range(4):
            for rows in itertools.product(range(32), repeat=many):
                tape = list(rows)
                self.assertEqual(faults(tape) == [], is_as_punched(tape), tape)


class Reaches(unittest.TestCase):
    def test_a_29_or_30_follows(self):
        tape = [1, 30, 2, 3, 29, 4, 30, 5]
        self.assertEqual([reach(tape, place) for place in range(8)], [1, 4, 4, 4, 6, 6, 8, 8])

    def test_the_one_at_the_place_itself_is_not_behind_it(self):
        self.assertEqual(reach([30, 1], 0), 2)
        self.assertEqual(reach([30, 29, 1], 0), 1)
        self.assertEqual(reach([30], 0), 1)

    def test_none_follows(self):
        self.assertEqual(reach([1, 2, 3], 0), 3)
        self.assertEqual(reach([1, 2, 3], 2), 3)
        self.assertEqual(reach([29, 2, 3], 1), 3)
        self.assertEqual(reach([0, 27, 28, 31], 0), 4)

    def test_it_stands_last(self):
        self.assertEqual(reach([1, 2, 29], 0), 2)
        self.assertEqual(reach([1, 2, 30], 1), 2)
        self.assertEqual(reach([1, 2, 30], 2), 3)

    def test_from_the_reach_on_rows_say_what_they_said(self):
        for rows in itertools.product((1, 22, 27, 29, 30), repeat=4):
            tape = list(rows)
            said = said_by_rows(tape)
            for place in range(4):
                start = reach(tape, place)
                for row in range(32):
                    other = tape[:place] + [row] + tape[place + 1:]
                    self.assertEqual(said_by_rows(other)[start:], said[start:])


class Hits(unittest.TestCase):
    def test_holes_are_punched_and_none_filled(self):
        self.assertEqual(hit_tape([1, 2, 21, 8, 0], [2, 2, 10, 17, 5]), [3, 2, 31, 25, 5])

    def test_masks_of_0_change_nothing(self):
        tape = list(range(32))
        self.assertEqual(hit_tape(tape, [0] * 32), tape)

    def test_masks_of_31_punch_all(self):
        self.assertEqual(hit_tape(list(range(32)), [31] * 32), [31] * 32)

    def test_empty_tape(self):
        self.assertEqual(hit_tape([], []), [])

    def test_each_row_with_each_mask(self):
        for row in range(32):
            for mask in range(32):
                holes = [hole for hole in (1, 2, 4, 8, 16) if row // hole % 2 or mask // hole % 2]
                self.assertEqual(hit_tape([row], [mask]), [sum(holes)])

    def test_long_tape(self):
        self.assertEqual(hit_tape([1] * 1500, [4] * 1500), [5] * 1500)


if __name__ == "__main__":
    unittest.main()
