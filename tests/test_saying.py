"""Point 4: what the rows of a tape say."""

import unittest

from tornrelay.code import read_tape, said_by_rows

# What rows 0 to 31 say, spelled out.
IN_LETTERS = [""] + list("abcdefghijklmnopqrstuvwxyz") + [" ", "|", "", "", ""]
IN_FIGURES = [
    "", "1", "2", "3", "4", "5", "6", "7", "8", "9", "0", "-", "/", ".", ",", "?", "(", ")", "+", ":", "=", "'",
    "*", "*", "*", "*", "*", " ", "|", "", "", "",
]


class EachRow(unittest.TestCase):
    def test_ahead_of_29_and_30_letters_are_read(self):
        for row in range(32):
            self.assertEqual(said_by_rows([row]), [IN_LETTERS[row]])

    def test_behind_29_letters_are_read(self):
        for row in range(32):
            self.assertEqual(said_by_rows([29, row]), ["", IN_LETTERS[row]])
            self.assertEqual(said_by_rows([30, 29, row]), ["", "", IN_LETTERS[row]])

    def test_behind_30_figures_are_read(self):
        for row in range(32):
            self.assertEqual(said_by_rows([30, row]), ["", IN_FIGURES[row]])
            self.assertEqual(said_by_rows([29, 30, row]), ["", "", IN_FIGURES[row]])

    def test_what_no_figure_stands_for(self):
        self.assertEqual(read_tape([30, 21, 22, 23, 24, 25, 26]), "'*****")

    def test_rows_that_say_nothing(self):
        self.assertEqual(said_by_rows([0, 31, 29, 30, 0, 31]), [""] * 6)

    def test_27_and_28_say_the_same_in_both(self):
        self.assertEqual(said_by_rows([27, 28, 30, 27, 28]), [" ", "|", "", " ", "|"])


class WholeTapes(unittest.TestCase):
    def test_figures_are_read_on_till_29(self):
        tape = [1, 30, 1, 0, 31, 27, 28, 2, 29, 2, 27, 3]
        self.assertEqual(said_by_rows(tape), ["a", "", "1", "", "", " ", "|", "2", "", "b", " ", "c"])
        self.assertEqual(read_tape(tape), "a1 |2b c")

    def test_empty_tape(self):
        self.assertEqual(said_by_rows([]), [])
        self.assertEqual(read_tape([]), "")

    def test_long_tape(self):
        tape = ([30] + list(range(1, 27)) + [29] + list(range(1, 23))) * 30
        self.assertEqual(len(tape), 1500)
        one = "1234567890-/.,?()+:='*****abcdefghijklmnopqrstuv"
        self.assertEqual(read_tape(tape), one * 30)
        self.assertEqual(len(said_by_rows(tape)), 1500)

    def test_both_tellings_agree(self):
        for first in range(32):
            for second in range(32):
                for third in (0, 1, 10, 22, 26, 27, 28, 29, 30, 31):
                    tape = [first, second, third, 26]
                    self.assertEqual("".join(said_by_rows(tape)), read_tape(tape))

    def test_each_row_is_told(self):
        for many in range(5):
            self.assertEqual(len(said_by_rows([0] * many)), many)


if __name__ == "__main__":
    unittest.main()
