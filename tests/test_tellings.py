"""Points 25, 26, 27 and 29: what is told of a net."""

import unittest

from tests.things import OTHER_THINGS
from tornrelay.deeds import (
    ask, begin, check, come_up, cut_line, go_down, mend_line, next_hour, run, run_out, take_in, tear,
)
from tornrelay.errors import NoChannel, NoDay, NoHouse, NoMessage
from tornrelay.net import Net
from tornrelay.tellings import (
    book_at, clock, closing, given_at, hung_at, lies, links_of, missing_at, rack_at, trace,
)

# a - b - c - d in a row by the lines 0, 1 and 2, both ways; a to c by line 3, from hour 6 on.
LINES = [("a", "b", 2, 0, 24), ("b", "c", 2, 0, 24), ("c", "d", 2, 0, 24), ("a", "c", 1, 6, 24)]


class TellingCase(unittest.TestCase):
    def setUp(self):
        self.net = Net(4, LINES)

    def go(self, line, house, masks=()):
        """Begin a sending, let it over with masks, tear it; tell what the tearing tells."""
        begin(self.net, line, house)
        run(self.net, line, house, list(masks))
        run_out(self.net, line, house)
        return tear(self.net, line, house)

    def ask_again(self, line, house, back):
        """Let the hearer of a channel know what was sent, and ask for what is missing on the same line."""
        check(self.net, line, house)
        run_out(self.net, line, house)
        tear(self.net, line, house)
        ask(self.net, line, back, line)
        run_out(self.net, line, back)
        tear(self.net, line, back)

    def stands(self, message, steps, place):
        self.assertEqual(trace(self.net, *message), steps)
        self.assertEqual(lies(self.net, *message), place)


class Tellings(TellingCase):
    def test_at_the_start(self):
        self.assertEqual(clock(self.net), (1, 0))
        self.assertEqual(links_of(self.net), [
            (0, "a", "b"), (0, "b", "a"), (1, "b", "c"), (1, "c", "b"), (2, "c", "d"), (2, "d", "c"),
        ])
        for house in "abcd":
            self.assertEqual([hung_at(self.net, house), given_at(self.net, house), book_at(self.net, house)], [[]] * 3)
        for line, house in ((0, "a"), (0, "b"), (2, "d"), (3, "a")):
            self.assertEqual([rack_at(self.net, line, house), missing_at(self.net, line, house)], [[], []])
        self.assertEqual(closing(self.net, 1), [
            (0, "a", 0, ()), (0, "b", 0, ()), (1, "b", 0, ()), (1, "c", 0, ()), (2, "c", 0, ()), (2, "d", 0, ()),
            (3, "a", 0, ()),
        ])

    def test_behind_deeds(self):
        take_in(self.net, "a", 3, "abd", "x")
        take_in(self.net, "a", 1, "c", "")
        self.assertEqual(hung_at(self.net, "a"), [(1, 3, "a", 1, "bd", "a", "x"), (2, 1, "a", 2, "c", "a", "")])
        self.assertEqual(given_at(self.net, "a"), [("a", 1, "x")])
        self.assertEqual(rack_at(self.net, 0, "a"), [(3, 1, (), "bd"), (1, 2, (), "c")])
        for hour in range(6):
            next_hour(self.net)
        self.assertEqual(clock(self.net), (1, 6))
        self.assertEqual(links_of(self.net)[-1], (3, "a", "c"))
        self.assertEqual(rack_at(self.net, 0, "a"), [(3, 1, (), "b")])
        self.assertEqual(rack_at(self.net, 3, "a"), [(3, 1, (), "d"), (1, 2, (), "c")])
        self.assertEqual(self.go(3, "a", [0, 31]), [("spoilt",)])
        self.assertEqual(self.go(3, "a"), [("in", 1, 2)])
        self.assertEqual(hung_at(self.net, "a"), [(1, 3, "a", 1, "b", "a", "x")])
        self.assertEqual(missing_at(self.net, 3, "a"), [(1, 1)])
        self.assertEqual(missing_at(self.net, 1, "b"), [])
        self.assertEqual(given_at(self.net, "c"), [("a", 2, "")])
        self.assertEqual(book_at(self.net, "c"), [("in", 1, 3, 1, 2, 1, "a", 2, "c", "ac", "")])
        self.assertEqual(book_at(self.net, "a")[2:], [("out", 1, 3, 1, 1, "d"), ("out", 2, 3, 1, 2, "c")])
        self.assertEqual(closing(self.net, 1)[-1], (3, "a", 2, (1,)))

    def test_hung_with_the_path_that_it_came(self):
        take_in(self.net, "a", 2, "cd", "x y")
        self.go(0, "a")
        self.assertEqual(hung_at(self.net, "b"), [(1, 2, "a", 1, "cd", "ab", "x y")])
        self.go(1, "b")
        self.assertEqual(hung_at(self.net, "c"), [(1, 2, "a", 1, "d", "abc", "x y")])
        self.assertEqual(given_at(self.net, "c"), [("a", 1, "x y")])

    def test_missing_at_the_hearer_rising(self):
        for day in (1, 2):
            for text in ("x", "y", "z"):
                take_in(self.net, "a", 2, "b", text)
                self.go(0, "a", [0, 31] if text != "z" else [])
            for hour in range(24):
                next_hour(self.net)
        self.assertEqual(missing_at(self.net, 0, "a"), [(1, 1), (1, 2), (2, 1), (2, 2)])
        self.assertEqual(missing_at(self.net, 0, "b"), [])

    def test_of_a_house_that_is_down(self):
        take_in(self.net, "b", 2, "bc", "x")
        take_in(self.net, "a", 2, "b", "y")
        self.go(0, "a", [0, 31])
        check(self.net, 0, "a")
        run_out(self.net, 0, "a")
        tear(self.net, 0, "a")
        go_down(self.net, "b")
        self.assertEqual(links_of(self.net), [(2, "c", "d"), (2, "d", "c")])
        self.assertEqual(hung_at(self.net, "b"), [(1, 2, "b", 1, "c", "b", "x")])
        self.assertEqual(given_at(self.net, "b"), [("b", 1, "x")])
        self.assertEqual(book_at(self.net, "b"), [("hand", 1, 2, "bc", "x"), ("check", 0, 1, 1)])
        self.assertEqual(missing_at(self.net, 0, "a"), [(1, 1)])
        self.assertEqual(rack_at(self.net, 1, "b"), [])
        come_up(self.net, "b")
        self.assertEqual(rack_at(self.net, 1, "b"), [(2, 1, (), "c")])

    def test_a_rack_of_what_is_asked_for_on_a_cut_line(self):
        take_in(self.net, "a", 2, "b", "y")
        self.go(0, "a", [0, 31])
        self.ask_again(0, "a", "b")
        cut_line(self.net, 0)
        self.assertEqual(rack_at(self.net, 0, "a"), [(2, 1, (1, 1), "b")])

    def test_no_house_and_no_channel(self):
        for thing in OTHER_THINGS + ["", "e", "ab", [], ["a"]]:
            for tell in (hung_at, given_at, book_at):
                with self.assertRaises(NoHouse):
                    tell(self.net, thing)
            for tell in (rack_at, missing_at):
                with self.assertRaises(NoChannel):
                    tell(self.net, 0, thing)
        for thing in OTHER_THINGS + ["", "0", 4, 12, [], [0]]:
            for tell in (rack_at, missing_at):
                with self.assertRaises(NoChannel, msg=thing):
                    tell(self.net, thing, "d")
        for line, house in ((0, "c"), (0, "d"), (3, "c"), (1, "a")):
            for tell in (rack_at, missing_at):
                with self.assertRaises(NoChannel):
                    tell(self.net, line, house)


class Messages(TellingCase):
    def test_from_house_to_house(self):
        take_in(self.net, "a", 2, "d", "x")
        message = ("a", 1, "d")
        self.stands(message, [], ("line", "a", 0))
        begin(self.net, 0, "a")
        steps = [("a", 0, 1, 1)]
        self.stands(message, steps, ("sent", "a", 0, 1, 1))
        run_out(self.net, 0, "a")
        self.stands(message, steps, ("sent", "a", 0, 1, 1))
        tear(self.net, 0, "a")
        self.stands(message, steps, ("line", "b", 1))
        self.go(1, "b")
        steps += [("b", 1, 1, 1)]
        self.stands(message, steps, ("line", "c", 2))
        for hour in range(24):
            next_hour(self.net)
        self.go(2, "c")
        steps += [("c", 2, 2, 1)]
        self.stands(message, steps, ("given", "d"))

    def test_for_its_own_house(self):
        take_in(self.net, "b", 2, "ab", "x")
        self.stands(("b", 1, "b"), [], ("given", "b"))
        self.stands(("b", 1, "a"), [], ("line", "b", 0))

    def test_several_ways(self):
        take_in(self.net, "b", 2, "acd", "x")
        self.go(0, "b")
        self.go(1, "b")
        self.stands(("b", 1, "a"), [("b", 0, 1, 1)], ("given", "a"))
        self.stands(("b", 1, "c"), [("b", 1, 1, 1)], ("given", "c"))
        self.stands(("b", 1, "d"), [("b", 1, 1, 1)], ("line", "c", 2))
        begin(self.net, 2, "c")
        self.stands(("b", 1, "d"), [("b", 1, 1, 1), ("c", 2, 1, 1)], ("sent", "c", 2, 1, 1))
        self.stands(("b", 1, "c"), [("b", 1, 1, 1)], ("given", "c"))

    def test_parted_on_the_way(self):
        take_in(self.net, "a", 2, "cd", "x")
        begin(self.net, 0, "a")
        cut_line(self.net, 0)
        mend_line(self.net, 0)
        for hour in range(6):
            next_hour(self.net)
        cut_line(self.net, 3)
        self.go(0, "a")
        mend_line(self.net, 3)
        self.go(1, "b")
        self.stands(("a", 1, "c"), [("a", 0, 1, 2), ("b", 1, 1, 1)], ("given", "c"))
        self.stands(("a", 1, "d"), [("a", 0, 1, 2), ("b", 1, 1, 1)], ("line", "c", 2))

    def test_broken_off(self):
        take_in(self.net, "a", 2, "b", "x")
        begin(self.net, 0, "a")
        run(self.net, 0, "a", [0] * 5)
        cut_line(self.net, 0)
        self.stands(("a", 1, "b"), [], ("none", "a"))
        mend_line(self.net, 0)
        self.stands(("a", 1, "b"), [], ("line", "a", 0))
        self.assertEqual(self.go(0, "a"), [("spoilt",), ("in", 1, 2)])
        self.stands(("a", 1, "b"), [("a", 0, 1, 2)], ("given", "b"))

    def test_broken_off_on_the_way(self):
        take_in(self.net, "a", 2, "d", "x")
        self.go(0, "a")
        begin(self.net, 1, "b")
        go_down(self.net, "b")
        self.stands(("a", 1, "d"), [("a", 0, 1, 1)], ("none", "b"))
        come_up(self.net, "b")
        self.stands(("a", 1, "d"), [("a", 0, 1, 1)], ("line", "b", 1))

    def test_spoilt_and_sent_again(self):
        take_in(self.net, "a", 2, "b", "x")
        self.assertEqual(self.go(0, "a", [0, 31]), [("spoilt",)])
        self.stands(("a", 1, "b"), [("a", 0, 1, 1)], ("sent", "a", 0, 1, 1))
        self.ask_again(0, "a", "b")
        self.stands(("a", 1, "b"), [("a", 0, 1, 1)], ("sent", "a", 0, 1, 1))
        self.assertEqual(self.go(0, "a"), [("in", 1, 1)])
        self.stands(("a", 1, "b"), [("a", 0, 1, 1)], ("given", "b"))

    def test_no_road(self):
        take_in(self.net, "a", 2, "d", "x")
        cut_line(self.net, 2)
        self.stands(("a", 1, "d"), [], ("none", "a"))
        mend_line(self.net, 2)
        self.go(0, "a")
        cut_line(self.net, 1)
        # The only other road leads back through the house from which it came.
        for hour in range(6):
            next_hour(self.net)
        self.stands(("a", 1, "d"), [("a", 0, 1, 1)], ("none", "b"))
        mend_line(self.net, 1)
        self.stands(("a", 1, "d"), [("a", 0, 1, 1)], ("line", "b", 1))

    def test_a_stamp_of_a_tape_that_came_in_is_no_serial(self):
        take_in(self.net, "a", 2, "bc", "x")
        self.go(0, "a")
        take_in(self.net, "b", 2, "c", "y")
        with self.assertRaises(NoMessage):
            lies(self.net, "b", 1, "c")
        self.stands(("b", 2, "c"), [], ("line", "b", 1))

    def test_no_message(self):
        take_in(self.net, "a", 2, "bc", "x")
        names = [(thing, 1, "b") for thing in OTHER_THINGS + ["", "b", "e", "ab", [], ["a"]]]
        names += [("a", thing, "b") for thing in OTHER_THINGS[:4] + OTHER_THINGS[5:] + ["", "1", 2, [], [1]]]
        names += [("a", 1, thing) for thing in OTHER_THINGS + ["", "a", "d", "bc", "e", [], ["b"]]]
        for name in names:
            for tell in (trace, lies):
                with self.assertRaises(NoMessage, msg=name):
                    tell(self.net, *name)
        self.stands(("a", 1, "b"), [], ("line", "a", 0))


class Closings(TellingCase):
    def day(self):
        for hour in range(24):
            next_hour(self.net)

    def test_days_gone_by(self):
        for text in ("x", "y"):
            take_in(self.net, "a", 2, "b", text)
        self.go(0, "a")
        self.go(0, "a", [0, 31])
        self.day()
        take_in(self.net, "a", 2, "b", "z")
        self.go(0, "a", [0, 31])
        take_in(self.net, "b", 2, "a", "z")
        self.go(0, "b")
        self.day()
        self.assertEqual(closing(self.net, 1)[:2], [(0, "a", 2, (2,)), (0, "b", 0, ())])
        self.assertEqual(closing(self.net, 2)[:2], [(0, "a", 1, (1,)), (0, "b", 1, ())])
        self.assertEqual(closing(self.net, 3)[:2], [(0, "a", 0, ()), (0, "b", 0, ())])
        self.assertEqual([one[:2] for one in closing(self.net, 3)], [
            (0, "a"), (0, "b"), (1, "b"), (1, "c"), (2, "c"), (2, "d"), (3, "a"),
        ])

    def test_though_the_hearer_does_not_know(self):
        for text in ("x", "y", "z"):
            take_in(self.net, "a", 2, "b", text)
        self.go(0, "a")
        self.go(0, "a", [0, 31])
        begin(self.net, 0, "a")
        self.assertEqual(missing_at(self.net, 0, "a"), [])
        self.assertEqual(closing(self.net, 1)[0], (0, "a", 3, (2, 3)))

    def test_empty_ones(self):
        take_in(self.net, "a", 2, "b", "x")
        begin(self.net, 0, "a")
        cut_line(self.net, 0)
        self.assertEqual(closing(self.net, 1)[0], (0, "a", 1, (1,)))
        mend_line(self.net, 0)
        self.go(0, "a")
        self.assertEqual(closing(self.net, 1)[0], (0, "a", 2, (1,)))
        self.ask_again(0, "a", "b")
        self.assertEqual(self.go(0, "a"), [("void", 1, 1)])
        self.assertEqual(closing(self.net, 1)[0], (0, "a", 2, ()))

    def test_no_day(self):
        for thing in OTHER_THINGS[:4] + OTHER_THINGS[5:] + ["", "1", 2, 9, 10, [], [1], (1,)]:
            with self.assertRaises(NoDay, msg=thing):
                closing(self.net, thing)
        self.day()
        self.assertEqual(len(closing(self.net, 2)), 7)
        for thing in (0, 3, True):
            with self.assertRaises(NoDay):
                closing(self.net, thing)


if __name__ == "__main__":
    unittest.main()
