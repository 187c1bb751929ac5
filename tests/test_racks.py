"""Point 21: racks, and who goes first."""

import random
import unittest

from tests.plain import Plain, spelled_road
from tornrelay.houses import House, house_of
from tornrelay.racks import rack_of
from tornrelay.roads import all_channels

# The house c with lines to a (0), to b (1), to d by a (2), to b by d (3), and back.
LINKS = all_channels([("c", "a", 2, 0, 24), ("c", "b", 2, 0, 24), ("a", "d", 1, 0, 24), ("d", "b", 2, 0, 24)])


class Hung(unittest.TestCase):
    def setUp(self):
        self.house = House("c")

    def test_empty_racks(self):
        self.assertEqual(rack_of(self.house, 0, LINKS), [])
        self.house.hand_in(1, "a", "")
        self.assertEqual(rack_of(self.house, 1, LINKS), [])
        self.assertEqual(rack_of(self.house, 0, []), [])

    def test_by_rank_then_by_stamp(self):
        for rank in (2, 4, 1, 3, 4, 2, 1):
            self.house.hand_in(rank, "a", "x")
        self.assertEqual(rack_of(self.house, 0, LINKS), [
            (4, 2, (), "a"), (4, 5, (), "a"), (3, 4, (), "a"), (2, 1, (), "a"), (2, 6, (), "a"), (1, 3, (), "a"),
            (1, 7, (), "a"),
        ])

    def test_ways_by_the_lines_with_which_roads_begin(self):
        self.house.hand_in(1, "abcd", "x")
        self.assertEqual(rack_of(self.house, 0, LINKS), [(1, 1, (), "ad")])
        self.assertEqual(rack_of(self.house, 1, LINKS), [(1, 1, (), "b")])
        self.assertEqual(rack_of(self.house, 2, LINKS), [])
        self.assertEqual(rack_of(self.house, 3, LINKS), [])

    def test_ways_without_a_road(self):
        self.house.hand_in(4, "ef", "x")
        self.house.hand_in(1, "ae", "x")
        self.assertEqual(rack_of(self.house, 0, LINKS), [(1, 2, (), "a")])

    def test_for_the_house_alone(self):
        self.house.hand_in(4, "c", "x")
        self.assertEqual(rack_of(self.house, 0, LINKS), [])

    def test_by_other_links_other_roads(self):
        self.house.hand_in(1, "bd", "x")
        self.assertEqual(rack_of(self.house, 0, LINKS), [(1, 1, (), "d")])
        without_b = [link for link in LINKS if link != (1, "c", "b")]
        self.assertEqual(rack_of(self.house, 0, without_b), [(1, 1, (), "bd")])
        without_a = [link for link in LINKS if link != (0, "c", "a")]
        self.assertEqual(rack_of(self.house, 1, without_a), [(1, 1, (), "bd")])

    def test_links_in_any_order(self):
        self.house.hand_in(1, "abd", "x")
        for seed in range(20):
            links = random.Random(seed).sample(LINKS, len(LINKS))
            self.assertEqual(rack_of(self.house, 0, links), [(1, 1, (), "ad")])

    def test_past_the_path(self):
        self.house.slip_in(("message", 0, 1, 1, 2, "a", 5, "bd", "a", "x"))
        self.assertEqual(rack_of(self.house, 0, LINKS), [])
        self.assertEqual(rack_of(self.house, 1, LINKS), [(2, 1, (), "bd")])
        self.house.slip_in(("message", 1, 1, 1, 3, "b", 5, "ad", "b", "x"))
        self.assertEqual(rack_of(self.house, 0, LINKS), [(3, 2, (), "ad")])
        self.house.slip_in(("message", 1, 1, 2, 4, "a", 5, "d", "ab", "x"))
        self.assertEqual(rack_of(self.house, 0, LINKS), [(3, 2, (), "ad")])
        self.assertEqual(rack_of(self.house, 1, LINKS), [(2, 1, (), "bd")])

    def test_the_least_of_two_lines(self):
        links = [(5, "c", "a"), (3, "c", "a"), (4, "c", "b"), (0, "b", "d"), (9, "a", "d")]
        self.house.hand_in(1, "abd", "x")
        self.assertEqual(rack_of(self.house, 3, links), [(1, 1, (), "ad")])
        self.assertEqual(rack_of(self.house, 5, links), [])
        self.assertEqual(rack_of(self.house, 4, links), [(1, 1, (), "b")])

    def test_what_was_put_out_is_gone_and_hangs_again(self):
        self.house.hand_in(1, "ad", "x")
        self.house.put_out(1, 0, 1, "a")
        self.assertEqual(rack_of(self.house, 0, LINKS), [(1, 1, (), "d")])
        self.house.put_out(1, 0, 1, "d")
        self.assertEqual(rack_of(self.house, 0, LINKS), [])
        self.house.break_off(0, 1, 1)
        self.assertEqual(rack_of(self.house, 0, LINKS), [(1, 1, (), "a")])


class Asked(unittest.TestCase):
    def setUp(self):
        self.house = House("c")
        self.house.hand_in(2, "abde", "x")
        self.house.hand_in(3, "a", "y")
        for day, ways in ((2, "a"), (2, "b"), (1, "d")):
            self.house.put_out(1, 0, day, ways)
        self.house.put_out(2, 0, 1, "a")

    def test_by_day_and_number_of_one_stamp(self):
        for day, number in ((2, 2), (1, 1), (2, 1)):
            self.house.ask_for(0, day, number)
        self.assertEqual(rack_of(self.house, 0, LINKS), [(2, 1, (1, 1), "d"), (2, 1, (2, 1), "a"), (2, 1, (2, 2), "b")])

    def test_by_rank_first(self):
        self.house.ask_for(0, 1, 1)
        self.house.ask_for(0, 1, 2)
        self.house.hand_in(4, "a", "z")
        self.house.hand_in(1, "a", "z")
        self.assertEqual(rack_of(self.house, 0, LINKS), [
            (4, 3, (), "a"), (3, 2, (1, 2), "a"), (2, 1, (1, 1), "d"), (1, 4, (), "a"),
        ])

    def test_by_stamp_ahead_of_the_day(self):
        self.house.hand_in(2, "b", "z")
        self.house.put_out(3, 0, 1, "b")
        self.house.ask_for(0, 1, 3)
        self.house.ask_for(0, 2, 1)
        self.assertEqual(rack_of(self.house, 0, LINKS), [(2, 1, (2, 1), "a"), (2, 3, (1, 3), "b")])

    def test_empty_ones_have_no_ways(self):
        self.house.ask_for(0, 2, 1)
        self.house.break_off(0, 2, 1)
        self.assertEqual(rack_of(self.house, 0, LINKS)[0], (2, 1, (2, 1), ""))

    def test_one_stamp_asked_for_and_hung(self):
        self.house.break_off(0, 2, 1)
        for day, number in ((2, 2), (2, 1), (1, 1)):
            self.house.ask_for(0, day, number)
        self.assertEqual(rack_of(self.house, 0, LINKS), [
            (2, 1, (1, 1), "d"), (2, 1, (2, 1), ""), (2, 1, (2, 2), "b"), (2, 1, (), "a"),
        ])

    def test_asked_for_without_links(self):
        self.house.ask_for(0, 1, 1)
        self.assertEqual(rack_of(self.house, 0, []), [(2, 1, (1, 1), "d")])

    def test_only_of_the_line(self):
        self.house.ask_for(0, 1, 1)
        self.assertEqual(rack_of(self.house, 1, LINKS), [])

    def test_no_more_behind_again(self):
        self.house.ask_for(0, 1, 1)
        self.house.put_again(0, 1, 1)
        self.assertEqual(rack_of(self.house, 0, LINKS), [])

    def test_of_a_house_made_of_the_book(self):
        self.house.ask_for(0, 1, 1)
        self.house.break_off(0, 1, 2)
        again = house_of("c", self.house.book_rows())
        self.assertEqual(rack_of(again, 0, LINKS), [(3, 2, (), "a"), (2, 1, (1, 1), "d")])
        self.assertEqual(rack_of(self.house, 0, LINKS), rack_of(again, 0, LINKS))


def spelled_rack(house, line, links):
    """Tell a rack anew, in the words of point 21."""
    plain = Plain("c", house.book_rows())
    told = []
    for stamp, rank, origin, serial, ways, path, text in plain.hung():
        firsts = {way: [link[0] for link in spelled_road(links, "c", way, path)][:1] for way in ways}
        mine = "".join(way for way in ways if firsts[way] == [line])
        told += [((-rank, stamp, 1), (rank, stamp, (), mine))] if mine else []
    for row in plain.of("out"):
        if row[2] == line and row[2:5] in plain.asked():
            rank, = [tape[1] for tape in plain.tapes() if tape[0] == row[1]]
            ways = "" if ("broken",) + row[2:5] in plain.rows else row[5]
            told.append(((-rank, row[1], 0) + row[3:5], (rank, row[1], row[3:5], ways)))
    return [entry for turn, entry in sorted(told)]


class ManyRacks(unittest.TestCase):
    def drawn_house(self, chance):
        house = House("c")
        for step in range(chance.randint(1, 30)):
            line, day = chance.randrange(2), chance.choice((1, 2))
            house.hand_in(chance.randint(1, 3), chance.choice(("a", "b", "abd", "de", "cd")), "")
            rank, path = chance.randint(1, 3), chance.choice(("a", "ae"))
            house.slip_in(("message", line, day, step + 1, rank, "a", 1, "bd", path, ""))
            stamp, rank, origin, serial, ways, path, text = chance.choice(house.hung_tapes())
            number = house.put_out(stamp, line, day, chance.choice(ways))[3]
            if chance.random() < 0.5:
                house.break_off(line, day, number)
            house.ask_for(line, day, chance.randint(1, number))
        return house

    def test_as_by_the_words_of_the_document(self):
        chance = random.Random(21)
        seen = 0
        for turn in range(60):
            house = self.drawn_house(chance)
            links = chance.sample(LINKS, chance.randint(0, len(LINKS)))
            for line in range(3):
                told = rack_of(house, line, links)
                self.assertEqual(told, spelled_rack(house, line, links))
                seen += len(told)
        self.assertGreater(seen, 300)


class OwnLists(unittest.TestCase):
    def test_a_rack_is_the_askers_own(self):
        house = House("c")
        house.hand_in(1, "ab", "x")
        links = [(1, "c", "b"), (0, "c", "a")]
        told, again = rack_of(house, 0, links), rack_of(house, 0, links)
        self.assertIsNot(told, again)
        told.clear()
        links.reverse()
        self.assertEqual(rack_of(house, 0, links), [(1, 1, (), "a")])
        links.clear()
        self.assertEqual(again, [(1, 1, (), "a")])
        house.put_out(1, 0, 1, "a")
        self.assertEqual(again, [(1, 1, (), "a")])

    def test_nothing_handed_in_is_changed(self):
        house = House("c")
        house.hand_in(1, "ab", "x")
        links = [(1, "c", "b"), (0, "c", "a")]
        kept = house.book_rows()
        rack_of(house, 0, links)
        self.assertEqual(links, [(1, "c", "b"), (0, "c", "a")])
        self.assertEqual(house.book_rows(), kept)


if __name__ == "__main__":
    unittest.main()
