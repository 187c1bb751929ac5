"""Point 13: lines, and their channels."""

import re
import unittest

from tests.things import OTHER_THINGS, one_part_otherwise, with_part, without
from tornrelay.roads import all_channels, is_line

LINE = ("a", "b", 1, 0, 24)
NO_NUMBERS = [True, False, None, "", "1", "a", [], [1], (), (1,), -1, -(10 ** 59), 10 ** 59]
NO_LETTERS = [True, False, None, 0, 1, "", "ab", "bc", "abc", "g", "A", " ", "1", [], ["a"], ("a",), ()]


def spelled_line(thing, houses):
    """Tell whether a thing is a line by how Python shows it."""
    last = "abcdef"[houses - 1]
    hour = "[0-9]|1[0-9]|2[0-3]"
    found = re.fullmatch(rf"\('([a-{last}])', '([a-{last}])', [12], ({hour}), ({hour}|24)\)", repr(thing))
    return bool(found) and found[1] != found[2] and int(found[3]) <= int(found[4])


class Lines(unittest.TestCase):
    def yes(self, *things, houses=6):
        for thing in things:
            self.assertIs(is_line(thing, houses), True, thing)

    def no(self, *things, houses=6):
        for thing in things:
            self.assertIs(is_line(thing, houses), False, thing)

    def test_lines(self):
        self.yes(LINE, ("f", "a", 2, 0, 0), ("b", "e", 1, 23, 24), ("c", "d", 2, 8, 17))

    def test_letters(self):
        for houses in range(1, 7):
            for one in "abcdefg":
                for other in "abcdefg":
                    fits = one != other and max(one, other) <= "abcdef"[houses - 1]
                    self.assertIs(is_line((one, other, 1, 0, 24), houses), fits, (one, other, houses))

    def test_letters_of_the_net(self):
        self.no(LINE, houses=1)
        self.yes(LINE, ("b", "a", 1, 0, 24), houses=2)
        self.no(("a", "c", 1, 0, 24), ("c", "a", 1, 0, 24), houses=2)
        self.no(("a", "f", 1, 0, 24), ("f", "e", 1, 0, 24), houses=5)
        self.yes(("a", "f", 1, 0, 24), ("f", "e", 1, 0, 24), houses=6)

    def test_equal_letters(self):
        for letter in "abcdef":
            self.no((letter, letter, 1, 0, 24), (letter, letter, 2, 0, 24))

    def test_ways(self):
        for ways in range(-2, 5):
            self.assertIs(is_line(with_part(LINE, 2, ways), 6), ways in (1, 2))

    def test_hours(self):
        for first in range(-2, 27):
            for last in range(-2, 28):
                fits = 0 <= first <= 23 and first <= last <= 24
                self.assertIs(is_line(("a", "b", 2, first, last), 6), fits, (first, last))

    def test_other_things_as_parts(self):
        for place in (0, 1):
            self.no(*[with_part(LINE, place, thing) for thing in NO_LETTERS])
        for place in (2, 3, 4):
            self.no(*[with_part(LINE, place, thing) for thing in NO_NUMBERS])
            self.no(*[with_part(("a", "b", 1, 0, 1), place, thing) for thing in NO_NUMBERS])

    def test_parts_exchanged(self):
        line = ("a", "c", 2, 5, 7)
        for one in range(5):
            for other in range(one):
                thing = with_part(with_part(line, one, line[other]), other, line[one])
                self.assertIs(is_line(thing, 6), {one, other} == {0, 1}, thing)

    def test_parts_left_out_and_put_in(self):
        for place in range(5):
            self.no(without(LINE, place))
        for part in LINE + (None, (), "c"):
            self.no(*[LINE[:place] + (part,) + LINE[place:] for place in range(6)])

    def test_lists_and_any_things(self):
        self.no(list(LINE), [LINE], (LINE,), [], "", "ab124", *OTHER_THINGS)
        self.no(list(LINE), None, (), houses=1)

    def test_one_part_otherwise(self):
        for line in (LINE, ("f", "b", 2, 7, 19), ("c", "a", 1, 23, 23)):
            for thing in one_part_otherwise(line):
                for houses in (1, 2, 3, 6):
                    self.assertIs(is_line(thing, houses), spelled_line(thing, houses), thing)


class Channels(unittest.TestCase):
    def test_one_way(self):
        self.assertEqual(all_channels([("a", "b", 1, 0, 24)]), [(0, "a", "b")])
        self.assertEqual(all_channels([("f", "b", 1, 5, 5)]), [(0, "f", "b")])

    def test_both_ways(self):
        self.assertEqual(all_channels([("a", "b", 2, 0, 24)]), [(0, "a", "b"), (0, "b", "a")])
        self.assertEqual(all_channels([("e", "c", 2, 0, 24)]), [(0, "c", "e"), (0, "e", "c")])

    def test_none(self):
        self.assertEqual(all_channels([]), [])

    def test_many_between_two_houses(self):
        lines = [("b", "a", 1, 0, 24), ("a", "b", 2, 3, 4), ("b", "a", 2, 0, 24), ("a", "b", 1, 0, 24)]
        lines.append(lines[0])
        self.assertEqual(all_channels(lines), [
            (0, "b", "a"), (1, "a", "b"), (1, "b", "a"), (2, "a", "b"), (2, "b", "a"), (3, "a", "b"), (4, "b", "a"),
        ])

    def test_they_rise_by_numbers_not_by_letters(self):
        lines = [("f", "e", 1, 0, 24), ("d", "a", 2, 0, 24), ("c", "a", 1, 0, 24)]
        self.assertEqual(all_channels(lines), [(0, "f", "e"), (1, "a", "d"), (1, "d", "a"), (2, "c", "a")])

    def test_twelve_lines(self):
        lines = [("b", "a", 2, 0, 24)] * 12
        self.assertEqual(all_channels(lines), [(at, *ends) for at in range(12) for ends in (("a", "b"), ("b", "a"))])


if __name__ == "__main__":
    unittest.main()
