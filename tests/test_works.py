"""Point 28: all that can be done."""

import copy
import random
import unittest

from tests.drawn import all_told, answer, do, drawn_deeds, drawn_net, drawn_ways, messages
from tornrelay.deeds import (
    ask, begin, check, come_up, cut_line, go_down, mend_line, next_hour, run, run_out, take_in, tear,
)
from tornrelay.errors import HouseDown, Shut
from tornrelay.net import Net
from tornrelay.roads import all_channels
from tornrelay.tellings import book_at, clock, closing, given_at, lies, links_of, missing_at
from tornrelay.works import work


def rows_of(net, houses, *sorts):
    """Count the rows of some sorts in all books."""
    books = [book_at(net, house) for house in "abcdef"[:houses]]
    return len([row for book in books for row in book if row[0] in sorts])


class Works(unittest.TestCase):
    LINES = [("a", "b", 2, 0, 24), ("b", "c", 2, 0, 24), ("c", "d", 1, 0, 24)]

    def setUp(self):
        self.net = Net(4, self.LINES)

    def test_nothing_to_do(self):
        self.assertEqual(work(self.net), 0)
        self.assertEqual([book_at(self.net, house) for house in "abcd"], [[]] * 4)
        self.assertEqual(clock(self.net), (1, 0))

    def test_nets_without_lines(self):
        net = Net(2, [])
        take_in(net, "a", 1, "ab", "x")
        self.assertEqual(work(net), 0)
        self.assertEqual(lies(net, "a", 1, "b"), ("none", "a"))

    def test_from_one_end_to_the_other(self):
        take_in(self.net, "a", 1, "d", "x")
        self.assertEqual(work(self.net), 3)
        self.assertEqual(given_at(self.net, "d"), [("a", 1, "x")])
        self.assertEqual(work(self.net), 0)

    def test_against_the_order_of_the_channels(self):
        net = Net(4, [("a", "b", 2, 0, 24), ("c", "a", 2, 0, 24), ("d", "c", 2, 0, 24)])
        take_in(net, "d", 1, "b", "x")
        self.assertEqual(work(net), 3)
        self.assertEqual(lies(net, "d", 1, "b"), ("given", "b"))

    def test_several_ways_and_messages(self):
        take_in(self.net, "b", 1, "abcd", "x")
        take_in(self.net, "a", 4, "b", "y")
        self.assertEqual(work(self.net), 4)
        for house in "abcd":
            self.assertIn(("b", 1, "x"), given_at(self.net, house))

    def test_what_is_going_and_untorn(self):
        take_in(self.net, "a", 1, "b", "x")
        take_in(self.net, "b", 1, "a", "y")
        begin(self.net, 0, "a")
        run(self.net, 0, "a", [0] * 4)
        begin(self.net, 0, "b")
        run_out(self.net, 0, "b")
        self.assertEqual(work(self.net), 2)
        self.assertEqual(lies(self.net, "a", 1, "b"), ("given", "b"))
        self.assertEqual(lies(self.net, "b", 1, "a"), ("given", "a"))

    def test_what_came_over_a_line_that_is_cut_is_torn(self):
        take_in(self.net, "a", 1, "b", "x")
        begin(self.net, 0, "a")
        run_out(self.net, 0, "a")
        cut_line(self.net, 0)
        self.assertEqual(work(self.net), 1)
        self.assertEqual(lies(self.net, "a", 1, "b"), ("given", "b"))

    def test_what_goes_over_a_line_that_is_shut_by_the_hour(self):
        net = Net(2, [("a", "b", 2, 0, 1)])
        take_in(net, "a", 1, "b", "x")
        take_in(net, "a", 1, "b", "y")
        begin(net, 0, "a")
        next_hour(net)
        self.assertEqual(work(net), 1)
        self.assertEqual(lies(net, "a", 1, "b"), ("given", "b"))
        self.assertEqual(lies(net, "a", 2, "b"), ("none", "a"))

    def test_what_was_spoilt_is_asked_for(self):
        for text in ("x", "y", "z"):
            take_in(self.net, "a", 1, "b", text)
            begin(self.net, 0, "a")
            run(self.net, 0, "a", [0, 31])
            run_out(self.net, 0, "a")
        self.assertEqual(work(self.net), 3)
        self.assertEqual(closing(self.net, 1)[0], (0, "a", 3, ()))
        self.assertEqual(missing_at(self.net, 0, "a"), [])

    def test_more_than_ten_are_missing_on_several_days(self):
        for day in (1, 2):
            for count in range(14):
                take_in(self.net, "a", 1, "b", "x")
                begin(self.net, 0, "a")
                run(self.net, 0, "a", [0, 31])
                run_out(self.net, 0, "a")
                tear(self.net, 0, "a")
            for hour in range(24):
                next_hour(self.net)
        self.assertEqual(work(self.net), 28)
        self.assertEqual([closing(self.net, day)[0] for day in (1, 2, 3)],
                         [(0, "a", 14, ()), (0, "a", 14, ()), (0, "a", 0, ())])

    def test_empty_ones_are_not_counted(self):
        take_in(self.net, "a", 1, "b", "x")
        begin(self.net, 0, "a")
        cut_line(self.net, 0)
        mend_line(self.net, 0)
        self.assertEqual(work(self.net), 1)
        self.assertEqual([row[0] for row in book_at(self.net, "b")].count("void"), 1)

    def test_what_can_not_be_asked_for_stays(self):
        take_in(self.net, "c", 1, "d", "x")
        begin(self.net, 2, "c")
        run(self.net, 2, "c", [0, 31])
        run_out(self.net, 2, "c")
        self.assertEqual(work(self.net), 0)
        self.assertEqual(lies(self.net, "c", 1, "d"), ("sent", "c", 2, 1, 1))
        self.assertEqual(missing_at(self.net, 2, "c"), [(1, 1)])

    def test_asked_for_by_another_line(self):
        net = Net(2, [("a", "b", 1, 0, 24), ("b", "a", 1, 0, 24)])
        take_in(net, "a", 1, "b", "x")
        begin(net, 0, "a")
        run(net, 0, "a", [0, 31])
        run_out(net, 0, "a")
        cut_line(net, 1)
        self.assertEqual(work(net), 0)
        mend_line(net, 1)
        self.assertEqual(work(net), 1)
        self.assertEqual(lies(net, "a", 1, "b"), ("given", "b"))

    def test_houses_that_are_down(self):
        take_in(self.net, "a", 1, "c", "x")
        go_down(self.net, "b")
        self.assertEqual(work(self.net), 0)
        self.assertEqual(lies(self.net, "a", 1, "c"), ("none", "a"))
        come_up(self.net, "b")
        self.assertEqual(work(self.net), 2)

    def test_what_came_to_a_house_that_is_down_stays_untorn(self):
        take_in(self.net, "a", 1, "b", "x")
        begin(self.net, 0, "a")
        run_out(self.net, 0, "a")
        go_down(self.net, "b")
        self.assertEqual(work(self.net), 0)
        self.assertEqual(lies(self.net, "a", 1, "b"), ("sent", "a", 0, 1, 1))
        come_up(self.net, "b")
        self.assertEqual(work(self.net), 1)

    def test_numbers_asked_for_ahead_of_it_are_sent_again(self):
        take_in(self.net, "c", 1, "d", "x")
        take_in(self.net, "a", 1, "b", "y")
        begin(self.net, 0, "a")
        run(self.net, 0, "a", [0, 31])
        run_out(self.net, 0, "a")
        tear(self.net, 0, "a")
        check(self.net, 0, "a")
        run_out(self.net, 0, "a")
        tear(self.net, 0, "a")
        ask(self.net, 0, "b", 0)
        self.assertEqual(work(self.net), 2)
        self.assertEqual([row[0] for row in book_at(self.net, "a")], ["hand", "out", "ask", "again"])

    def test_sixty_messages_a_day_for_nine_days(self):
        lines = [("abcdef"[at], "abcdef"[at - 1], 2, 0, 24) for at in range(6)] * 2
        net = Net(6, lines)
        for day in range(9):
            for count in range(60):
                take_in(net, "abcdef"[count % 6], 1 + count % 4, "abcdef", "x")
            for hour in range(24 if day < 8 else 0):
                next_hour(net)
        self.assertEqual(work(net), 540 * 5)
        self.assertEqual([len(given_at(net, house)) for house in "abcdef"], [540] * 6)


class ManyWorks(unittest.TestCase):
    def drawn(self, seed):
        chance = random.Random(seed)
        houses, lines = drawn_net(chance, 5, 7, (0, 0, 0, 1, 2))
        net = Net(houses, lines)
        for step in range(chance.choice((0, 20, 60))):
            for name, handed in drawn_deeds(chance, houses, lines, hits=0.5):
                do(net, name, handed)
        for step in range(chance.choice((0, 10))):
            answer(take_in, net, chance.choice("abcdef"[:houses]), 1, drawn_ways(chance, houses), "y")
        for line in range(len(lines)):
            if chance.random() < 0.2:
                cut_line(net, line)
        for house in "abcdef"[:houses]:
            if chance.random() < 0.15:
                answer(go_down, net, house)
        return net, houses, lines

    def try_all(self, net, lines):
        """Do such deeds by the plain way, as often as there might be something to do."""
        for turn in range(6):
            for line, house, receiver in all_channels(lines):
                answer(check, net, line, house)
                answer(run_out, net, line, house)
                answer(tear, net, line, house)
                for back, sender, hearer in all_channels(lines):
                    if (sender, hearer) == (receiver, house):
                        answer(ask, net, back, receiver, line)
                        answer(run_out, net, back, receiver)
                        answer(tear, net, back, receiver)
                while not isinstance(answer(begin, net, line, house), type):
                    run_out(net, line, house)
                    tear(net, line, house)

    def hold_places(self, net, houses, lines):
        links = links_of(net)
        told = []
        for message in messages(net, houses):
            place = lies(net, *message)
            self.assertIn(place[0], ("given", "none", "sent"))
            if place[0] == "sent":
                channel, = [one for one in all_channels(lines) if one[:2] == (place[2], place[1])]
                backs = [link for link in links if link[1:] == (channel[2], channel[1])]
                self.assertTrue(channel not in links or not backs)
            told.append(place[0])
        return told

    def test_conditions_behind_it(self):
        places, came = [], 0
        for seed in range(120):
            net, houses, lines = self.drawn(seed)
            before, books = rows_of(net, houses, "in"), [book_at(net, house) for house in "abcdef"[:houses]]
            links, now, others = links_of(net), clock(net), rows_of(net, houses, "hand", "broken")
            told = work(net)
            self.assertEqual(told, rows_of(net, houses, "in") - before)
            self.assertEqual((links_of(net), clock(net)), (links, now))
            self.assertEqual(rows_of(net, houses, "hand", "broken"), others)
            for house, book in zip("abcdef", books):
                self.assertEqual(book_at(net, house)[:len(book)], book)
            places += self.hold_places(net, houses, lines)
            came += told
            self.hold_nothing_is_left(net, houses, lines)
        for place in ("given", "none", "sent"):
            self.assertGreater(places.count(place), 10, place)
        self.assertGreater(came, 200)

    def hold_nothing_is_left(self, net, houses, lines):
        other = copy.deepcopy(net)
        for line, house, receiver in all_channels(lines):
            self.assertIn(answer(run_out, other, line, house), (0, Shut))
            self.assertIn(answer(tear, other, line, house), ([], HouseDown))
        many = rows_of(net, houses, "in", "void")
        self.try_all(other, lines)
        self.assertEqual(rows_of(other, houses, "in", "void"), many)
        kept = all_told(net, houses, lines)
        self.assertEqual(work(net), 0)
        self.assertEqual(rows_of(net, houses, "in", "void"), many)
        self.assertEqual(all_told(net, houses, lines), kept)


if __name__ == "__main__":
    unittest.main()
