"""Point 14: roads, and the houses that can be come to."""

import itertools
import random
import unittest

from tests.plain import spelled_road
from tornrelay.roads import all_channels, reached, road

# Four houses in a row, each joined to the next both ways.
ROW = [(0, "a", "b"), (0, "b", "a"), (1, "b", "c"), (1, "c", "b"), (2, "c", "d"), (2, "d", "c")]


class Roads(unittest.TestCase):
    def test_along_a_row(self):
        self.assertEqual(road(ROW, "a", "b", "a"), [(0, "a", "b")])
        self.assertEqual(road(ROW, "a", "d", "a"), [(0, "a", "b"), (1, "b", "c"), (2, "c", "d")])
        self.assertEqual(road(ROW, "d", "b", "d"), [(2, "d", "c"), (1, "c", "b")])

    def test_the_shortest_though_its_numbers_are_greater(self):
        links = ROW + [(9, "a", "d")]
        self.assertEqual(road(links, "a", "d", "a"), [(9, "a", "d")])
        self.assertEqual(road(links, "a", "c", "a"), [(0, "a", "b"), (1, "b", "c")])

    def test_of_several_shortest_the_least(self):
        self.assertEqual(road([(3, "a", "b"), (1, "a", "b"), (2, "a", "b")], "a", "b", "a"), [(1, "a", "b")])
        links = [(0, "b", "d"), (1, "c", "d"), (2, "a", "c"), (3, "a", "b")]
        self.assertEqual(road(links, "a", "d", "a"), [(2, "a", "c"), (1, "c", "d")])
        links = [(0, "a", "c"), (0, "c", "a"), (1, "a", "b"), (2, "b", "d"), (3, "c", "d"), (4, "b", "d")]
        self.assertEqual(road(links, "a", "d", "a"), [(0, "a", "c"), (3, "c", "d")])

    def test_the_least_is_told_behind_the_first_link_too(self):
        links = [(0, "a", "b"), (1, "a", "c"), (2, "c", "e"), (3, "b", "d"), (4, "b", "e"), (5, "e", "f")]
        links.append((6, "d", "f"))
        self.assertEqual(road(links, "a", "f", "a"), [(0, "a", "b"), (3, "b", "d"), (6, "d", "f")])
        self.assertEqual(road(links, "a", "e", "a"), [(0, "a", "b"), (4, "b", "e")])

    def test_numbers_go_as_numbers(self):
        self.assertEqual(road([(10, "a", "b"), (9, "a", "b")], "a", "b", "a"), [(9, "a", "b")])

    def test_none(self):
        self.assertEqual(road(ROW, "a", "e", "a"), [])
        self.assertEqual(road([], "a", "b", "a"), [])
        self.assertEqual(road([(0, "b", "a")], "a", "b", "a"), [])
        self.assertEqual(road([(0, "b", "c")], "a", "c", "a"), [])

    def test_past_houses(self):
        self.assertEqual(road(ROW, "a", "d", "ac"), [])
        self.assertEqual(road(ROW, "a", "d", "ca"), [])
        self.assertEqual(road(ROW, "b", "d", "ab"), [(1, "b", "c"), (2, "c", "d")])
        links = ROW + [(3, "a", "e"), (4, "e", "f"), (5, "f", "d"), (6, "e", "c")]
        self.assertEqual(road(links, "a", "d", "ba"), [(3, "a", "e"), (4, "e", "f"), (5, "f", "d")])
        self.assertEqual(road(links, "a", "d", "afb"), [(3, "a", "e"), (6, "e", "c"), (2, "c", "d")])

    def test_the_goal_passed(self):
        self.assertEqual(road(ROW, "a", "b", "ab"), [])
        self.assertEqual(road(ROW, "a", "d", "da"), [])

    def test_the_house_itself_as_goal(self):
        for house in "abcd":
            self.assertEqual(road(ROW, house, house, house), [])
        self.assertEqual(road(ROW, "b", "b", "abcd"), [])
        self.assertEqual(road([], "a", "a", "a"), [])

    def test_links_in_another_order(self):
        links = [(0, "a", "b"), (1, "a", "c"), (2, "b", "d"), (3, "c", "d"), (4, "a", "b")]
        for order in itertools.permutations(links):
            self.assertEqual(road(list(order), "a", "d", "a"), [(0, "a", "b"), (2, "b", "d")])
            self.assertEqual(reached(list(order), "a", "a"), "abcd")


class Reached(unittest.TestCase):
    def test_the_house_and_all_that_can_be_come_to(self):
        self.assertEqual(reached(ROW, "a", "a"), "abcd")
        self.assertEqual(reached(ROW, "c", "c"), "abcd")
        self.assertEqual(reached(ROW, "e", "e"), "e")
        self.assertEqual(reached([], "f", "f"), "f")

    def test_they_rise(self):
        links = [(0, "f", "e"), (1, "e", "a"), (2, "f", "d"), (3, "a", "c")]
        self.assertEqual(reached(links, "f", "f"), "acdef")

    def test_only_as_lines_lead(self):
        links = [(0, "a", "b"), (1, "c", "b"), (2, "b", "d")]
        self.assertEqual([reached(links, house, house) for house in "abcd"], ["abd", "bd", "bcd", "d"])

    def test_past_houses(self):
        self.assertEqual(reached(ROW, "a", "ac"), "ab")
        self.assertEqual(reached(ROW, "a", "ba"), "a")
        self.assertEqual(reached(ROW, "c", "bc"), "cd")
        self.assertEqual(reached(ROW, "d", "abcd"), "d")


class Nets(unittest.TestCase):
    """Nets of chance: all is told as by a look at every road."""

    def test_as_by_all_roads(self):
        chance = random.Random(14)
        for turn in range(400):
            houses = "abcdef"[:chance.randint(2, 6)]
            lines = []
            for line in range(chance.randint(0, 12)):
                one, other = chance.sample(houses, 2)
                lines.append((one, other, chance.choice((1, 2)), 0, 24))
            links = [link for link in all_channels(lines) if chance.random() < 0.8]
            chance.shuffle(links)
            house = chance.choice(houses)
            passed = chance.sample([one for one in houses if one != house], chance.randrange(len(houses))) + [house]
            passed = "".join(chance.sample(passed, len(passed))) if turn % 2 else house
            self.check(links, house, passed)

    def check(self, links, house, passed):
        letters = {house}
        for goal in "abcdef":
            told = road(links, house, goal, passed)
            self.assertEqual(told, spelled_road(links, house, goal, passed), (links, house, goal, passed))
            if told:
                letters.add(goal)
        self.assertEqual(reached(links, house, passed), "".join(sorted(letters)))


if __name__ == "__main__":
    unittest.main()
