"""Points 2 and 11: what whole numbers, letters, ways and paths are."""

import itertools
import unittest

from tornrelay.kinds import is_day, is_letter, is_line_number, is_number, is_path, is_rank, is_rising, is_sending
from tornrelay.kinds import is_ways, is_whole, is_whole_within, sort_of

OTHERS = [True, False, None, 0, 1, [], ["a"], [1], (), ("a",), (1, 2)]


class WholeNumbers(unittest.TestCase):
    def test_ints_are_whole_numbers(self):
        for thing in (0, 1, -1, 31, 10 ** 60 - 1, -(10 ** 60 - 1)):
            self.assertIs(is_whole(thing), True)

    def test_truths_and_other_things_are_none(self):
        for thing in (True, False, None, "", "1", [], [1], (), (1,)):
            self.assertIs(is_whole(thing), False)

    def test_bounds_belong_to_what_is_within(self):
        told = [is_whole_within(number, 1, 3) for number in range(-1, 6)]
        self.assertEqual(told, [False, False, True, True, True, False, False])

    def test_what_is_no_whole_number_is_not_within(self):
        for thing in (True, False, None, "1", [1], (1,)):
            self.assertIs(is_whole_within(thing, 0, 3), False)


class Numbers(unittest.TestCase):
    def test_bounds(self):
        for ask, least, greatest in ((is_rank, 1, 4), (is_line_number, 0, 11), (is_day, 1, 9), (is_number, 1, 9999)):
            fits = [number for number in range(-3, 10005) if ask(number)]
            self.assertEqual(fits, list(range(least, greatest + 1)))
            for thing in (True, False, None, "1", [1], (1,)):
                self.assertIs(ask(thing), False)

    def test_sendings(self):
        self.assertIs(is_sending((0, 1, 1)), True)
        self.assertIs(is_sending((11, 9, 9999)), True)
        for parts in ((-1, 1, 1), (12, 1, 1), (0, 0, 1), (0, 10, 1), (0, 1, 0), (0, 1, 10000)):
            self.assertIs(is_sending(parts), False)
        for parts in ((), (1,), (1, 1), (1, 1, 1, 1), (1, 1, [1]), (1, 1, None), (True, 1, 1), (0, "1", 1)):
            self.assertIs(is_sending(parts), False)


class Letters(unittest.TestCase):
    def test_one_of_some_letters(self):
        self.assertEqual([letter for letter in "abcdefg" if is_letter(letter, "abf")], ["a", "b", "f"])
        for thing in OTHERS + ["", "ab", "bf", "A", " "]:
            self.assertIs(is_letter(thing, "abf"), False)
        self.assertIs(is_letter("", ""), False)

    def test_paths_and_ways(self):
        paths, ways = [], []
        for many in range(8):
            for letters in itertools.permutations("abcdef", many) if many < 7 else [tuple("abcdefa"), tuple("abcdefg")]:
                paths += ["".join(letters)] if is_path("".join(letters)) else []
                ways += ["".join(letters)] if is_ways("".join(letters)) else []
        # Six letters in all orders of one to six; of each choice of them one that rises.
        self.assertEqual((len(paths), len(ways)), (6 + 30 + 120 + 360 + 720 + 720, 63))
        self.assertIn("abcdef", ways)

    def test_no_paths_and_no_ways(self):
        for thing in OTHERS + ["", "aa", "aba", "g", "ag", "A", "a b", "a,b", "1", " "]:
            self.assertIs(is_path(thing), False)
            self.assertIs(is_ways(thing), False)

    def test_rising(self):
        for things in ((), "", (1,), (1, 2), (9, 10, 100), "a", "af"):
            self.assertIs(is_rising(things), True)
        for things in ((1, 1), (2, 1), (1, 2, 2), (1, 3, 2), "aa", "ba", "acb"):
            self.assertIs(is_rising(things), False)


class Sorts(unittest.TestCase):
    def test_the_text_ahead_in_a_tuple(self):
        self.assertEqual([sort_of(("in",)), sort_of(("void", 1)), sort_of(("", "in"))], ["in", "void", ""])

    def test_none_in_other_things(self):
        for thing in OTHERS + ["in", ["in"], (None, "in"), (["in"],), (("in",),)]:
            self.assertEqual(sort_of(thing), "a" if thing == ("a",) else "")


if __name__ == "__main__":
    unittest.main()
