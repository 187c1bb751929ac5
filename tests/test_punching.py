"""Point 5: how writing is punched."""

import itertools
import unittest

from tests.things import NO_TEXTS
from tornrelay.code import punch, read_tape
from tornrelay.errors import NoText

LETTERS = "abcdefghijklmnopqrstuvwxyz"
FIGURES = "1234567890-/.,?()+:='"


def needless_places(tape):
    """Tell where a row is 0 or 31, or a 29 or 30 that isn't right ahead of a row that it turns."""
    places = []
    figures = False
    for place, row in enumerate(tape):
        if row in (29, 30):
            behind = tape[place + 1:place + 2]
            turns = figures != (row == 30)
            figures = row == 30
            if not turns or not behind or not 1 <= behind[0] <= 26:
                places.append(place)
        elif row in (0, 31):
            places.append(place)
    return places


class Signs(unittest.TestCase):
    def test_each_letter_alone(self):
        for place, sign in enumerate(LETTERS):
            self.assertEqual(punch(sign), [place + 1])

    def test_each_figure_alone(self):
        for place, sign in enumerate(FIGURES):
            self.assertEqual(punch(sign), [30, place + 1])

    def test_blank_and_end_of_line_alone(self):
        self.assertEqual(punch(" "), [27])
        self.assertEqual(punch("|"), [28])


class Texts(unittest.TestCase):
    def test_mixed_texts(self):
        told = {
            "": [],
            "ab": [1, 2],
            "12": [30, 1, 2],
            "a1": [1, 30, 1],
            "1a": [30, 1, 29, 1],
            "1 2": [30, 1, 27, 2],
            "1 a": [30, 1, 27, 29, 1],
            "a |1": [1, 27, 28, 30, 1],
            "a|b": [1, 28, 2],
            "1 | ": [30, 1, 27, 28, 27],
            " |": [27, 28],
            "a1|2 b": [1, 30, 1, 28, 2, 27, 29, 2],
            "on 3.": [15, 14, 27, 30, 3, 13],
            "'=z": [30, 21, 20, 29, 26],
        }
        for text, tape in told.items():
            self.assertEqual(punch(text), tape, text)

    def test_short_texts_are_said_by_tapes_with_nothing_needless(self):
        for many in range(6):
            for signs in itertools.product("az10' |", repeat=many):
                tape = punch("".join(signs))
                self.assertEqual(read_tape(tape), "".join(signs))
                self.assertEqual(needless_places(tape), [])

    def test_no_shorter_tape_says_the_same(self):
        least = {}
        for many in range(4):
            for tape in itertools.product((0, 1, 5, 27, 28, 29, 30, 31), repeat=many):
                least.setdefault(read_tape(list(tape)), many)
        for text, many in least.items():
            self.assertEqual(len(punch(text)), many, text)

    def test_four_hundred_signs(self):
        self.assertEqual(punch("a" * 400), [1] * 400)
        self.assertEqual(punch("a1" * 200), [1, 30, 1] + [29, 1, 30, 1] * 199)
        self.assertEqual(punch("1 " * 200), [30] + [1, 27] * 200)


class Refused(unittest.TestCase):
    def test_too_many_signs(self):
        for text in ("a" * 401, "1" * 401, " " * 401, "a1" * 1000):
            with self.assertRaises(NoText):
                punch(text)

    def test_signs_that_no_row_says(self):
        said = LETTERS + FIGURES + " |"
        unsaid = [chr(code) for code in range(128) if chr(code) not in said]
        self.assertIn("*", unsaid)
        self.assertIn("A", unsaid)
        self.assertIn('"', unsaid)
        self.assertEqual(len(unsaid), 128 - 49)
        for sign in unsaid + ["\u00e4", "\u0660"]:
            for text in (sign, sign + "a", "1" + sign, "a" + sign + "b"):
                with self.assertRaises(NoText, msg=repr(text)):
                    punch(text)

    def test_things_that_are_no_texts(self):
        for thing in NO_TEXTS:
            with self.assertRaises(NoText, msg=repr(thing)):
                punch(thing)


if __name__ == "__main__":
    unittest.main()
