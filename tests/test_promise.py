"""Point 3: the promise, over nets with drawn deeds."""

import random
import unittest

from tests.drawn import ask, drawn_deeds, drawn_net, messages
from tests.watched import Watch
from tornrelay.works import work


class Promise(unittest.TestCase):
    def drive(self, seed, steps):
        """Do drawn deeds under watch; tell how messages lay, and how they lie in the end."""
        chance = random.Random(seed)
        houses, lines = drawn_net(chance, 6, 8)
        watch = Watch(self, houses, lines)
        lay = []
        for step in range(steps):
            for name, handed in drawn_deeds(chance, houses, lines, hits=0.5):
                watch.do(name, handed)
            if step % 15 == 0:
                lay += watch.hold()
        lay += watch.hold()
        watch.hold_closings()
        return watch, lay

    def test_deed_by_deed(self):
        lay = []
        for seed in range(40):
            lay += self.drive(seed, 120)[1]
        for place in ("given", "sent", "line", "none"):
            self.assertGreater(lay.count(place), 100, place)

    def test_when_all_that_can_be_done_is_done(self):
        given = 0
        for seed in range(100, 130):
            watch, lay = self.drive(seed, 60)
            work(watch.net)
            links = ask(watch.net, "links_of")
            for message in messages(watch.net, watch.houses):
                place = watch.hold_message(*message)
                given += place == "given"
                self.assertIn(place, ("given", "none", "sent"))
                if place == "sent":
                    kept = watch.channel(*ask(watch.net, "lies", *message)[2:0:-1])
                    backs = [link for link in links if link[1:] == (kept[2], kept[1])]
                    self.assertTrue(kept not in links or not backs)
            watch.hold_ways()
            watch.hold_closings()
        self.assertGreater(given, 100)

    def test_all_is_given_when_all_is_mended(self):
        for seed in range(200, 215):
            chance = random.Random(seed)
            houses = chance.randint(3, 6)
            # A ring, both ways: whatever is missing can be asked for.
            letters = "abcdef"[:houses]
            lines = [(letters[at], letters[at - 1], 2, 0, 24) for at in range(houses)]
            watch = Watch(self, houses, lines)
            for step in range(80):
                for name, handed in drawn_deeds(chance, houses, lines):
                    watch.do(name, handed)
            for line in range(houses):
                watch.do("mend_line", (line,))
            for house in letters:
                watch.do("come_up", (house,))
            work(watch.net)
            for message in messages(watch.net, houses):
                # On a ring a message that came by one side is led back by none: it may lie with no road.
                self.assertIn(watch.hold_message(*message), ("given", "none"))
            for day in range(1, ask(watch.net, "clock")[0] + 1):
                self.assertEqual([one[3] for one in ask(watch.net, "closing", day)], [()] * (2 * houses))


if __name__ == "__main__":
    unittest.main()
