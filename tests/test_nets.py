"""Point 22: what is a net, and how it begins."""

import unittest

from tests.drawn import all_told
from tests.things import OTHER_THINGS
from tornrelay.deeds import begin, take_in
from tornrelay.errors import NoNet, RelayError
from tornrelay.net import Net
from tornrelay.tellings import book_at, clock, given_at, hung_at, links_of, missing_at, rack_at

LINES = [("a", "b", 2, 0, 24), ("c", "b", 1, 5, 9)]


class NoNets(unittest.TestCase):
    def no_net(self, houses, lines):
        with self.assertRaises(NoNet, msg=(houses, lines)):
            Net(houses, lines)

    def test_numbers_of_houses(self):
        for houses in (0, 7, -1, True, False, None, "", "3", "abc", [3], (3,), 10 ** 59, [], ()):
            self.no_net(houses, [])
            self.no_net(houses, LINES)

    def test_things_that_are_no_lists(self):
        for lines in OTHER_THINGS + ["", "ab", tuple(LINES), LINES[0]]:
            self.no_net(3, lines)

    def test_lines(self):
        line = LINES[0]
        for place in range(3):
            for wrong in OTHER_THINGS + ["", "ab", [], list(line), line[:4], line + (0,), ("a", "a", 2, 0, 24)]:
                self.no_net(3, LINES[:place] + [wrong] + LINES[place:])

    def test_parts_of_a_line(self):
        for place, wrong in ((0, "d"), (1, "d"), (1, "a"), (2, 0), (2, 3), (2, True), (3, -1), (3, 24), (3, False),
                             (4, 25)):
            line = list(LINES[0])
            line[place] = wrong
            self.no_net(3, [tuple(line)])

    def test_houses_of_the_net_alone(self):
        for houses in range(1, 7):
            last = "abcdef"[houses - 1]
            if houses > 1:
                Net(houses, [("a", last, 1, 0, 24)])
            self.no_net(houses, [("a", "abcdefg"[houses], 1, 0, 24)])

    def test_twelve_lines_at_most(self):
        line = ("a", "b", 2, 0, 24)
        self.assertEqual(len(links_of(Net(2, [line] * 12))), 24)
        self.no_net(2, [line] * 13)
        self.no_net(2, [line] * 2000)

    def test_both_are_wrong(self):
        self.no_net(None, None)

    def test_it_is_a_refusal(self):
        self.assertTrue(issubclass(NoNet, RelayError))


class AtFirst(unittest.TestCase):
    def test_all_is_up_and_whole_on_day_1_at_hour_0(self):
        net = Net(3, LINES)
        self.assertEqual(clock(net), (1, 0))
        self.assertEqual(links_of(net), [(0, "a", "b"), (0, "b", "a")])
        for house in "abc":
            self.assertEqual([hung_at(net, house), given_at(net, house), book_at(net, house)], [[], [], []])
        for line, house in ((0, "a"), (0, "b"), (1, "c")):
            self.assertEqual([rack_at(net, line, house), missing_at(net, line, house)], [[], []])

    def test_nets_of_each_number_of_houses(self):
        for houses in range(1, 7):
            net = Net(houses, [])
            self.assertEqual(links_of(net), [])
            self.assertEqual(take_in(net, "abcdef"[houses - 1], 1, "abcdef"[:houses], "x"), 1)

    def test_two_nets_have_nothing_in_common(self):
        one, other = Net(3, LINES), Net(3, LINES)
        kept = all_told(other, 3, LINES)
        take_in(one, "a", 1, "b", "x")
        begin(one, 0, "a")
        self.assertEqual(all_told(other, 3, LINES), kept)


class OwnLines(unittest.TestCase):
    def test_the_lines_stay_as_they_are(self):
        lines = list(LINES)
        Net(3, lines)
        self.assertEqual(lines, LINES)
        wrong = LINES + [["a", "b", 2, 0, 24]]
        with self.assertRaises(NoNet):
            Net(3, wrong)
        self.assertEqual(wrong, LINES + [["a", "b", 2, 0, 24]])

    def test_a_change_behind_the_call_changes_nothing(self):
        lines = list(LINES)
        net = Net(3, lines)
        kept = all_told(net, 3, LINES)
        lines[0] = ("a", "c", 1, 0, 24)
        lines.append(("a", "c", 2, 0, 24))
        self.assertEqual(all_told(net, 3, LINES), kept)
        lines.clear()
        self.assertEqual(all_told(net, 3, LINES), kept)


if __name__ == "__main__":
    unittest.main()
