"""Points 16 to 27 and 29: nets with drawn deeds, beside a plain second telling of them."""

import random
import unittest

from tests.drawn import WRONG, all_told, ask, do, drawn_deeds, drawn_net, drawn_wrong
from tests.plain_net import PlainNet
from tornrelay.net import Net


class DrawnNets(unittest.TestCase):
    def alike(self, net, plain, houses, lines):
        told, spelled = all_told(net, houses, lines), all_told(plain, houses, lines)
        for name in spelled:
            self.assertEqual(told[name], spelled[name], (name, houses, lines))
        self.assertEqual(told, spelled)

    def alike_for_any_things(self, net, plain, chance):
        for name, many in (("hung_at", 1), ("given_at", 1), ("book_at", 1), ("rack_at", 2), ("missing_at", 2),
                           ("trace", 3), ("lies", 3), ("closing", 1)):
            handed = [chance.choice(WRONG + ["a", 0, 1]) for place in range(many)]
            self.assertEqual(ask(net, name, *handed), ask(plain, name, *handed), (name, handed))

    def drive(self, seed, steps):
        """Draw deeds for a net; tell which were done, which refused, and which rows they wrote."""
        chance = random.Random(seed)
        houses, lines = drawn_net(chance)
        net, plain = Net(houses, lines), PlainNet(houses, lines)
        seen = []
        for step in range(steps):
            for name, handed in drawn_deeds(chance, houses, lines):
                if chance.random() < 0.05:
                    handed = drawn_wrong(chance, name, handed)
                told = do(net, name, handed)
                self.assertEqual(told, do(plain, name, handed), (seed, step, name, handed))
                seen.append(told.__name__ if isinstance(told, type) else name)
                seen += [one[0] for one in told] if name == "tear" and isinstance(told, list) else []
            self.alike_for_any_things(net, plain, chance)
        self.alike(net, plain, houses, lines)
        seen += [row[0] for rows in plain.books.values() for row in rows]
        return seen + [plain.lies(*message)[0] for message in plain.messages()]

    def test_as_by_a_plain_second_telling(self):
        seen = []
        for seed in range(60):
            seen += self.drive(seed, 150)
        for name in (
            "take_in begin check ask run run_out tear next_hour cut_line mend_line go_down come_up NoHouse HouseDown "
            "HouseUp NoRank NoWays NoText NoChannel Shut Busy Nothing NoLine in void double spoilt hand out broken "
            "check ask again given sent line none"
        ).split():
            self.assertGreater(seen.count(name), 5, name)


if __name__ == "__main__":
    unittest.main()
