"""Point 22: what a net refuses, and which refusal is made where two are due; what is refused changes nothing."""

import copy
import itertools
import unittest

from tests.drawn import all_told
from tests.things import OTHER_THINGS
from tornrelay import deeds, tellings
from tornrelay.errors import (
    Busy, HouseDown, HouseUp, NoChannel, NoHouse, NoLine, NoRank, NoText, NoWays, Nothing, RelayError, Shut, TooMany,
)
from tornrelay.net import Net
from tornrelay.slips import slip_tape

# a and b by line 0, both ways; a to b by line 1; b to c by line 2, from hour 1 on; c to a by line 3.
LINES = [("a", "b", 2, 0, 24), ("a", "b", 1, 0, 24), ("b", "c", 1, 1, 24), ("c", "a", 1, 0, 24)]

NO_HOUSES = OTHER_THINGS + ["", "d", "f", "ab", "A", " ", [], ["a"], [["a"]]]
NO_LINES = OTHER_THINGS[:3] + OTHER_THINGS[5:] + [4, 11, 12, "", "0", [], [0], [[0]]]
NO_RANKS = OTHER_THINGS[:4] + [5, -1, 10 ** 59, "", "1", [], [1], (1,), (1, [2])]
NO_WAYS = OTHER_THINGS + ["", "d", "ad", "ba", "aa", "A", "a ", " ", "abcdefg", [], ["a"]]
NO_TEXTS = OTHER_THINGS + ["*", "A", "a~", "a;", "\"", "x" * 201, "x" * 2000, [], ["x"]]


class RefusalCase(unittest.TestCase):
    def setUp(self):
        self.net = Net(3, LINES)

    def refused(self, error, name, *handed):
        told = all_told(self.net, 3, LINES)
        kept = copy.deepcopy(handed)
        deed = getattr(deeds, name, None) or getattr(tellings, name)
        with self.assertRaises(RelayError, msg=(name, handed)) as caught:
            deed(self.net, *handed)
        self.assertIs(caught.exception.__class__, error, (name, handed))
        self.assertEqual(all_told(self.net, 3, LINES), told)
        self.assertEqual(handed, kept)

    def fill(self, many=60):
        for count in range(many):
            deeds.take_in(self.net, "a", 1, "a", "")


class TakenIn(RefusalCase):
    # For each refusal in its order, things with which it is due, and the place at which they are handed in.
    WRONG = [
        (NoHouse, 0, ["d", None]), (HouseDown, 0, ["b"]), (NoRank, 1, [0, True]), (NoWays, 2, ["", "d"]),
        (NoText, 3, ["*", None]),
    ]

    def test_any_things(self):
        good = ("a", 1, "b", "x")
        for place, error, things in ((0, NoHouse, NO_HOUSES), (1, NoRank, NO_RANKS), (2, NoWays, NO_WAYS),
                                     (3, NoText, NO_TEXTS)):
            for thing in things:
                self.refused(error, "take_in", *good[:place], thing, *good[place + 1:])
        self.assertEqual(deeds.take_in(self.net, *good), 1)

    def test_texts_of_two_hundred_signs(self):
        self.assertEqual(deeds.take_in(self.net, "a", 1, "b", "x" * 200), 1)
        self.assertEqual(deeds.take_in(self.net, "a", 1, "b", "1a" * 100), 2)

    def test_a_house_that_is_down(self):
        deeds.go_down(self.net, "b")
        self.refused(HouseDown, "take_in", "b", 1, "a", "x")
        self.assertEqual(deeds.take_in(self.net, "a", 1, "b", "x"), 1)

    def test_the_first_of_several(self):
        deeds.go_down(self.net, "b")
        self.fill()
        self.refused(TooMany, "take_in", "a", 1, "b", "x")
        for many in range(1, len(self.WRONG) + 1):
            for due in itertools.combinations(self.WRONG, many):
                for which in range(2):
                    handed = ["a", 1, "b", "x"]
                    for error, place, things in reversed(due):
                        handed[place] = things[which % len(things)]
                    self.refused(due[0][0], "take_in", *handed)


class Channels(RefusalCase):
    NAMED = ("begin", "check", "ask", "run", "run_out", "tear", "rack_at", "missing_at")

    def handed(self, name, line, house):
        return (line, house) + {"ask": (0,), "run": ([0],)}.get(name, ())

    def test_any_things(self):
        for name in self.NAMED:
            for line in NO_LINES:
                self.refused(NoChannel, name, *self.handed(name, line, "a"))
            for house in NO_HOUSES:
                self.refused(NoChannel, name, *self.handed(name, 0, house))

    def test_lines_that_do_not_lead_from_the_house(self):
        for name in self.NAMED:
            for line, house in ((0, "c"), (1, "b"), (2, "c"), (2, "a"), (3, "a"), (3, "b")):
                self.refused(NoChannel, name, *self.handed(name, line, house))

    def test_ahead_of_all_else(self):
        deeds.cut_line(self.net, 1)
        deeds.go_down(self.net, "b")
        for name in self.NAMED:
            self.refused(NoChannel, name, *self.handed(name, 1, "b"))

    def test_asked_for_a_line_that_does_not_lead_the_other_way(self):
        for of in NO_LINES + [2, 3]:
            self.refused(NoChannel, "ask", 0, "a", of)
        self.refused(NoChannel, "ask", 0, "a", 1)
        self.refused(NoChannel, "ask", 1, "a", 1)
        self.refused(NoChannel, "ask", 3, "c", 3)
        self.refused(NoChannel, "ask", 3, "c", 0)
        self.refused(Nothing, "ask", 0, "a", 0)
        self.refused(Nothing, "ask", 1, "a", 0)
        self.refused(Nothing, "ask", 0, "b", 1)
        self.refused(Nothing, "ask", 0, "b", 0)

    def test_asked_for_no_such_line_ahead_of_all_else(self):
        deeds.check(self.net, 0, "a")
        self.refused(NoChannel, "ask", 0, "a", 1)
        self.refused(Busy, "ask", 0, "a", 0)
        deeds.cut_line(self.net, 0)
        self.refused(NoChannel, "ask", 0, "a", None)
        self.refused(Shut, "ask", 0, "a", 0)


class ShutAndBusy(RefusalCase):
    def all_shut(self, line, house):
        for name, *more in (("begin",), ("check",), ("ask", 0)):
            self.refused(Shut, name, line, house, *more)

    def test_by_a_cut(self):
        deeds.cut_line(self.net, 0)
        self.all_shut(0, "a")
        self.all_shut(0, "b")
        self.refused(Shut, "run", 0, "a", [0])
        self.refused(Shut, "run", 0, "a", [])
        self.refused(Shut, "run_out", 0, "b")
        self.assertEqual(deeds.tear(self.net, 0, "a"), [])

    def test_by_a_house_that_is_down(self):
        for house in "ab":
            net = self.net
            deeds.go_down(net, house)
            self.all_shut(0, "a")
            self.all_shut(0, "b")
            self.refused(Shut, "run", 0, "a", [0])
            self.refused(Shut, "run_out", 0, "b")
            deeds.come_up(net, house)
            self.assertEqual(deeds.run_out(net, 0, "a"), 0)

    def test_by_the_hour(self):
        self.refused(Shut, "begin", 2, "b")
        self.refused(Shut, "check", 2, "b")
        self.assertEqual(deeds.run(self.net, 2, "b", [0]), 0)
        self.assertEqual(deeds.run_out(self.net, 2, "b"), 0)
        deeds.next_hour(self.net)
        self.refused(Nothing, "begin", 2, "b")
        self.assertEqual(deeds.check(self.net, 2, "b"), ("check", 2, (0,)))

    def test_shut_ahead_of_busy_ahead_of_nothing(self):
        net = Net(2, [("a", "b", 2, 0, 1)])
        deeds.check(net, 0, "a")
        for name, *more in (("begin",), ("check",), ("ask", 0)):
            with self.assertRaises(Busy):
                getattr(deeds, name)(net, 0, "a", *more)
        deeds.next_hour(net)
        for name, *more in (("begin",), ("check",), ("ask", 0)):
            with self.assertRaises(Shut):
                getattr(deeds, name)(net, 0, "a", *more)
        self.assertGreater(deeds.run_out(net, 0, "a"), 0)

    def test_busy_and_what_goes_stays(self):
        deeds.take_in(self.net, "a", 1, "b", "x")
        many = len(slip_tape(deeds.begin(self.net, 0, "a")))
        for name, *more in (("begin",), ("check",), ("ask", 0)):
            self.refused(Busy, name, 0, "a", *more)
        self.assertEqual(deeds.run_out(self.net, 0, "a"), many)
        self.assertEqual(deeds.tear(self.net, 0, "a"), [("in", 1, 1)])

    def test_nothing_sent_where_it_is_refused(self):
        self.refused(Nothing, "begin", 0, "a")
        self.refused(Nothing, "ask", 0, "a", 0)
        self.assertEqual(deeds.run_out(self.net, 0, "a"), 0)
        self.assertEqual(deeds.tear(self.net, 0, "a"), [])

    def test_a_hearer_that_is_down_tears_nothing(self):
        deeds.check(self.net, 0, "a")
        deeds.run_out(self.net, 0, "a")
        deeds.go_down(self.net, "b")
        self.refused(HouseDown, "tear", 0, "a")
        self.refused(HouseDown, "tear", 1, "a")
        self.assertEqual(deeds.tear(self.net, 0, "b"), [])
        deeds.come_up(self.net, "b")
        self.assertEqual(deeds.tear(self.net, 0, "a"), [("check", (0,))])


class LinesAndHouses(RefusalCase):
    def test_no_lines(self):
        for thing in NO_LINES:
            self.refused(NoLine, "cut_line", thing)
            self.refused(NoLine, "mend_line", thing)
        for name in ("cut_line", "mend_line"):
            for line in range(4):
                self.assertIsNone(getattr(deeds, name)(self.net, line))

    def test_a_net_without_lines(self):
        net = Net(1, [])
        for thing in (0, -1, None):
            for name in ("cut_line", "mend_line"):
                with self.assertRaises(NoLine):
                    getattr(deeds, name)(net, thing)

    def test_no_houses(self):
        for thing in NO_HOUSES:
            for name in ("go_down", "come_up", "hung_at", "given_at", "book_at"):
                self.refused(NoHouse, name, thing)

    def test_down_and_up_twice(self):
        self.refused(HouseUp, "come_up", "a")
        self.assertIsNone(deeds.go_down(self.net, "a"))
        self.refused(HouseDown, "go_down", "a")
        self.refused(HouseUp, "come_up", "b")
        self.assertIsNone(deeds.come_up(self.net, "a"))
        self.refused(HouseUp, "come_up", "a")
        self.assertIsNone(deeds.go_down(self.net, "a"))


if __name__ == "__main__":
    unittest.main()
