"""Points 23 and 24: a house that goes down and comes up again."""

import copy
import random
import unittest

from tests.drawn import all_told, do, drawn_deeds, drawn_net
from tornrelay.deeds import begin, check, come_up, cut_line, go_down, mend_line, next_hour, run, run_out, take_in, tear
from tornrelay.errors import HouseDown, Shut
from tornrelay.net import Net
from tornrelay.roads import all_channels
from tornrelay.tellings import book_at, closing, given_at, hung_at, lies, links_of, missing_at, rack_at

LINES = [("a", "b", 2, 0, 24), ("b", "c", 2, 0, 24), ("a", "c", 1, 0, 24)]


class GoneDown(unittest.TestCase):
    def setUp(self):
        self.net = Net(3, LINES)

    def test_what_goes_to_it_and_from_it_is_broken_off(self):
        take_in(self.net, "a", 1, "b", "x")
        take_in(self.net, "b", 1, "c", "y")
        take_in(self.net, "b", 1, "a", "z")
        take_in(self.net, "a", 1, "c", "w")
        for line, house in ((0, "a"), (0, "b"), (1, "b"), (2, "a")):
            begin(self.net, line, house)
        run(self.net, 0, "a", [0] * 5)
        go_down(self.net, "b")
        self.assertEqual(book_at(self.net, "a"), [
            ("hand", 1, 1, "b", "x"), ("hand", 2, 1, "c", "w"), ("out", 1, 0, 1, 1, "b"), ("out", 2, 2, 1, 1, "c"),
            ("broken", 0, 1, 1),
        ])
        self.assertEqual(book_at(self.net, "b")[2:], [
            ("out", 2, 0, 1, 1, "a"), ("out", 1, 1, 1, 1, "c"), ("broken", 0, 1, 1), ("broken", 1, 1, 1),
        ])
        self.assertEqual(tear(self.net, 0, "b"), [("spoilt",)])
        self.assertEqual(tear(self.net, 1, "b"), [("spoilt",)])
        self.assertGreater(run_out(self.net, 2, "a"), 0)
        self.assertEqual(tear(self.net, 2, "a"), [("in", 1, 1)])

    def test_links_without_it(self):
        go_down(self.net, "b")
        self.assertEqual(links_of(self.net), [(2, "a", "c")])
        go_down(self.net, "c")
        self.assertEqual(links_of(self.net), [])
        come_up(self.net, "b")
        self.assertEqual(links_of(self.net), [(0, "a", "b"), (0, "b", "a")])
        come_up(self.net, "c")
        self.assertEqual(links_of(self.net), all_channels(LINES))

    def test_lines_that_were_cut_stay_so(self):
        cut_line(self.net, 0)
        go_down(self.net, "b")
        come_up(self.net, "b")
        self.assertEqual(links_of(self.net), [(1, "b", "c"), (1, "c", "b"), (2, "a", "c")])

    def test_lines_that_are_cut_and_mended_meanwhile(self):
        cut_line(self.net, 0)
        go_down(self.net, "b")
        mend_line(self.net, 0)
        cut_line(self.net, 1)
        self.assertEqual(links_of(self.net), [(2, "a", "c")])
        come_up(self.net, "b")
        self.assertEqual(links_of(self.net), [(0, "a", "b"), (0, "b", "a"), (2, "a", "c")])

    def test_what_is_refused_meanwhile(self):
        check(self.net, 0, "a")
        run_out(self.net, 0, "a")
        go_down(self.net, "b")
        for error, deed, handed in (
            (HouseDown, take_in, ("b", 1, "a", "x")), (HouseDown, tear, (0, "a")), (HouseDown, tear, (1, "c")),
            (Shut, begin, (0, "a")), (Shut, begin, (0, "b")), (Shut, check, (1, "b")), (Shut, run, (0, "a", [0])),
            (Shut, run_out, (1, "b")), (HouseDown, go_down, ("b",)),
        ):
            with self.assertRaises(error, msg=handed):
                deed(self.net, *handed)

    def test_told_of_as_its_book_tells(self):
        take_in(self.net, "b", 3, "abc", "x")
        begin(self.net, 0, "b")
        run_out(self.net, 0, "b")
        take_in(self.net, "a", 1, "b", "y")
        begin(self.net, 0, "a")
        run_out(self.net, 0, "a")
        tear(self.net, 0, "a")
        kept = book_at(self.net, "b")
        go_down(self.net, "b")
        self.assertEqual(book_at(self.net, "b"), kept)
        self.assertEqual(hung_at(self.net, "b"), [(1, 3, "b", 1, "c", "b", "x")])
        self.assertEqual(given_at(self.net, "b"), [("b", 1, "x"), ("a", 1, "y")])
        self.assertEqual(rack_at(self.net, 1, "b"), [])
        self.assertEqual(lies(self.net, "b", 1, "c"), ("none", "b"))
        self.assertEqual(lies(self.net, "b", 1, "a"), ("sent", "b", 0, 1, 1))
        self.assertEqual(lies(self.net, "a", 1, "b"), ("given", "b"))
        self.assertEqual(missing_at(self.net, 0, "b"), [])
        self.assertEqual(closing(self.net, 1)[:2], [(0, "a", 1, ()), (0, "b", 1, (1,))])

    def test_untorn_tapes_are_torn_behind_it(self):
        take_in(self.net, "a", 1, "b", "y")
        begin(self.net, 0, "a")
        run_out(self.net, 0, "a")
        go_down(self.net, "b")
        come_up(self.net, "b")
        self.assertEqual(book_at(self.net, "b"), [])
        self.assertEqual(tear(self.net, 0, "a"), [("in", 1, 1)])
        self.assertEqual(given_at(self.net, "b"), [("a", 1, "y")])

    def test_hours_come_meanwhile(self):
        go_down(self.net, "b")
        for hour in range(24):
            next_hour(self.net)
        come_up(self.net, "b")
        self.assertEqual(check(self.net, 0, "b"), ("check", 0, (0, 0)))


def elsewhere(name, handed, lines, house):
    """Tell whether a deed is done neither at a house nor on its lines."""
    own = [number for number, line in enumerate(lines) if house in line[:2]]
    if name == "next_hour":
        return True
    return handed[0] != house and handed[0] not in own


class AsIfCutAndMended(unittest.TestCase):
    """Two nets: in one a house goes down and comes up, in the other its lines are cut and mended."""

    def both(self, nets, deeds):
        for name, handed in deeds:
            told = [do(net, name, handed) for net in nets]
            self.assertEqual(told[0], told[1], (name, handed))

    def drive(self, seed):
        chance = random.Random(seed)
        houses, lines = drawn_net(chance)
        net = Net(houses, lines)
        for step in range(60):
            for name, handed in drawn_deeds(chance, houses, lines):
                do(net, name, handed)
        for house in list(net.down):
            come_up(net, house)
        house = chance.choice("abcdef"[:houses])
        uncut = [line for line in range(len(lines)) if house in lines[line][:2] and line not in net.cut]
        other = copy.deepcopy(net)
        # Something is going where it can be: what is broken off is the point here.
        for line, sender, receiver in all_channels(lines):
            self.both((net, other), [("begin", (line, sender)), ("run", (line, sender, [0] * chance.randrange(9)))])
        going = sum(1 for wire in net.wires.values() if wire.rows_going())
        self.pause(chance, net, other, houses, lines, house, uncut)
        self.assertEqual(all_told(net, houses, lines), all_told(other, houses, lines), seed)
        for step in range(60):
            self.both((net, other), drawn_deeds(chance, houses, lines))
        self.assertEqual(all_told(net, houses, lines), all_told(other, houses, lines), seed)
        return going

    def pause(self, chance, net, other, houses, lines, house, uncut):
        meanwhile = []
        for step in range(chance.choice((0, 0, 5))):
            drawn = drawn_deeds(chance, houses, lines)
            meanwhile += [(name, handed) for name, handed in drawn if elsewhere(name, handed, lines, house)]
        go_down(net, house)
        for line in uncut:
            cut_line(other, line)
        self.both((net, other), meanwhile)
        come_up(net, house)
        for line in uncut:
            mend_line(other, line)

    def test_all_is_told_alike(self):
        going = sum(self.drive(seed) for seed in range(60))
        self.assertGreater(going, 60)


if __name__ == "__main__":
    unittest.main()
