"""Point 2 for nets: what is handed in stays as it is, and what is told is the asker's own."""

import copy
import random
import unittest

from tests.drawn import all_told, ask, do, drawn_deeds, drawn_net
from tests.test_own_lists import lists_in, spoil
from tornrelay.deeds import begin, check, run, run_out, take_in, tear
from tornrelay.net import Net
from tornrelay.works import work


def lists_of(told):
    """Gather all lists of what all_told tells."""
    return [one for part in told.values() for one in lists_in(part)]


class DrawnNets(unittest.TestCase):
    def setUp(self):
        self.chance = random.Random(2)

    def drawn(self):
        """Tell a net behind drawn deeds, its houses and lines."""
        houses, lines = drawn_net(self.chance)
        net = Net(houses, lines)
        for step in range(60):
            for name, handed in drawn_deeds(self.chance, houses, lines):
                do(net, name, handed)
        return net, houses, lines

    def test_what_is_told_is_new_each_time(self):
        for turn in range(12):
            net, houses, lines = self.drawn()
            once, twice = all_told(net, houses, lines), all_told(net, houses, lines)
            every = lists_of(once) + lists_of(twice)
            self.assertEqual(len({id(one) for one in every}), len(every))
            self.assertEqual(once, twice)

    def test_a_change_of_what_was_told_changes_no_later_answer(self):
        for turn in range(12):
            net, houses, lines = self.drawn()
            told = all_told(net, houses, lines)
            kept = copy.deepcopy(told)
            for part in told.values():
                spoil(part)
            self.assertEqual(all_told(net, houses, lines), kept)

    def test_later_deeds_change_nothing_told(self):
        for turn in range(12):
            net, houses, lines = self.drawn()
            told = all_told(net, houses, lines)
            kept = copy.deepcopy(told)
            for step in range(30):
                for name, handed in drawn_deeds(self.chance, houses, lines):
                    do(net, name, handed)
            work(net)
            self.assertEqual(told, kept)

    def test_nothing_asked_changes_the_net(self):
        for turn in range(12):
            net, houses, lines = self.drawn()
            other = copy.deepcopy(net)
            all_told(net, houses, lines)
            for step in range(30):
                for name, handed in drawn_deeds(self.chance, houses, lines):
                    self.assertEqual(do(net, name, handed), do(other, name, handed))
                    all_told(net, houses, lines)
            self.assertEqual(all_told(net, houses, lines), all_told(other, houses, lines))


class Handed(unittest.TestCase):
    LINES = [("a", "b", 2, 0, 24)]

    def setUp(self):
        self.net = Net(2, self.LINES)
        take_in(self.net, "a", 1, "b", "x")
        begin(self.net, 0, "a")

    def test_masks_stay_as_they_are(self):
        masks = [0, 1, 2, 3]
        run(self.net, 0, "a", masks)
        self.assertEqual(masks, [0, 1, 2, 3])

    def test_a_change_of_masks_behind_the_call_changes_nothing(self):
        masks = [0] * 4
        run(self.net, 0, "a", masks)
        masks[:] = [31] * 9
        run_out(self.net, 0, "a")
        self.assertEqual(tear(self.net, 0, "a"), [("in", 1, 1)])

    def test_what_a_tearing_tells_is_the_askers_own(self):
        run_out(self.net, 0, "a")
        check(self.net, 0, "a")
        run_out(self.net, 0, "a")
        told = tear(self.net, 0, "a")
        self.assertEqual(told, [("in", 1, 1), ("check", (1,))])
        kept = all_told(self.net, 2, self.LINES)
        told.clear()
        self.assertEqual(all_told(self.net, 2, self.LINES), kept)
        first, second = tear(self.net, 0, "a"), tear(self.net, 0, "a")
        self.assertEqual((first, second), ([], []))
        self.assertIsNot(first, second)

    def test_any_things_stay_as_they_are(self):
        for name, many in (("hung_at", 1), ("given_at", 1), ("book_at", 1), ("rack_at", 2), ("missing_at", 2),
                           ("trace", 3), ("lies", 3), ("closing", 1)):
            things = [["a", [0]] for place in range(many)]
            ask(self.net, name, *things)
            self.assertEqual(things, [["a", [0]]] * many)
        for name, many in (("take_in", 4), ("begin", 2), ("check", 2), ("ask", 3), ("run_out", 2), ("tear", 2),
                           ("cut_line", 1), ("mend_line", 1), ("go_down", 1), ("come_up", 1)):
            things = [["a", [0]] for place in range(many)]
            do(self.net, name, things)
            self.assertEqual(things, [["a", [0]]] * many)


if __name__ == "__main__":
    unittest.main()
