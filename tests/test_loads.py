"""Points 30 to 32, and point 2 for them: loads of a line, and how long messages wait."""

import copy
import itertools
import random
import unittest

from tests.things import OTHER_THINGS
from tornrelay.errors import NoRank
from tornrelay.loads import is_row, longest_row, longest_wait, waits

# A stream is (rank, words, gap).
STREAMS = [(4, 10, 3), (2, 25, 5), (2, 5, 1)]


class Rows(unittest.TestCase):
    def test_rows(self):
        for row in (
            [], [(0, 0)], [(9, 0)], [(0, 0), (0, 1), (0, 2)], [(0, 2), (0, 1), (0, 0)], [(1, 1), (6, 1)],
            [(0, 2), (1, 2), (2, 2), (2, 0), (3, 2), (5, 0)], [(0, 1), (4, 0), (5, 1), (9, 0)],
            [(0, 0), (3, 0), (6, 0), (9, 0)],
        ):
            self.assertIs(is_row(STREAMS, 10, row), True, row)

    def test_minutes(self):
        for row in ([(10, 0)], [(-1, 0)], [(1, 0), (0, 1)], [(0, 0), (5, 1), (4, 0)], [(0, 0), (11, 0)],
                    [(10 ** 59, 0)]):
            self.assertIs(is_row(STREAMS, 10, row), False, row)
        self.assertIs(is_row(STREAMS, 1, [(0, 0), (0, 1)]), True)
        self.assertIs(is_row(STREAMS, 1, [(0, 0), (1, 1)]), False)
        self.assertIs(is_row(STREAMS, 30, [(29, 0)]), True)
        self.assertIs(is_row(STREAMS, 30, [(30, 0)]), False)

    def test_gaps(self):
        for row in ([(0, 0), (2, 0)], [(0, 2), (0, 2)], [(0, 0), (1, 1), (2, 0)], [(0, 1), (0, 2), (4, 1)],
                    [(0, 0), (3, 0), (5, 0)], [(3, 0), (4, 0)]):
            self.assertIs(is_row(STREAMS, 10, row), False, row)
        self.assertIs(is_row([(1, 1, 60)], 30, [(0, 0), (29, 0)]), False)

    def test_places(self):
        for place in (3, -1, 4, 10 ** 59, True, False, None, "0", [0], (0,)):
            self.assertIs(is_row(STREAMS, 10, [(0, place)]), False, place)
            self.assertIs(is_row(STREAMS, 10, [(0, 0), (0, place)]), False, place)

    def test_things_that_are_no_minutes(self):
        for minute in (True, False, None, "0", "", [0], (0,), (), []):
            self.assertIs(is_row(STREAMS, 10, [(minute, 0)]), False, minute)
            self.assertIs(is_row(STREAMS, 10, [(0, 1), (minute, 0)]), False, minute)

    def test_things_that_are_no_tuples_of_two(self):
        for part in OTHER_THINGS + ["", "ab", [], [0, 0], (0,), (0, 0, 0), ((0, 0),), [(0, 0)]]:
            self.assertIs(is_row(STREAMS, 10, [part]), False, part)
            self.assertIs(is_row(STREAMS, 10, [(0, 1), part, (9, 0)]), False, part)

    def test_things_that_are_no_lists(self):
        for thing in OTHER_THINGS + ["", "ab", ((0, 0),), (0, 0)]:
            self.assertIs(is_row(STREAMS, 10, thing), False, thing)


class Waits(unittest.TestCase):
    def test_no_messages(self):
        self.assertEqual(waits(STREAMS, 5, []), [])

    def test_a_free_line(self):
        self.assertEqual(waits(STREAMS, 5, [(0, 0)]), [0])
        self.assertEqual(waits(STREAMS, 5, [(7, 0)]), [0])
        self.assertEqual(waits(STREAMS, 5, [(0, 0), (3, 0), (9, 1)]), [0, 0, 0])

    def test_minutes_are_rounded_up(self):
        for words, speed, minutes in ((1, 1, 1), (10, 5, 2), (11, 5, 3), (1, 400, 1), (200, 1, 200), (9, 10, 1),
                                      (10, 10, 1)):
            self.assertEqual(waits([(1, words, 1)], speed, [(0, 0), (1, 0)]), [0, minutes - 1])

    def test_a_busy_line(self):
        # The first of them takes five minutes, the second two, the third one.
        self.assertEqual(waits(STREAMS, 5, [(0, 1), (1, 2), (2, 0)]), [0, 6, 3])
        self.assertEqual(waits(STREAMS, 5, [(0, 1), (4, 2), (5, 0)]), [0, 3, 0])
        self.assertEqual(waits(STREAMS, 5, [(0, 1), (5, 2), (5, 0)]), [0, 2, 0])
        self.assertEqual(waits(STREAMS, 5, [(0, 1), (5, 2), (6, 0)]), [0, 0, 0])

    def test_free_and_busy_again(self):
        self.assertEqual(waits(STREAMS, 5, [(0, 0), (1, 2), (9, 1), (10, 0), (11, 2)]), [0, 1, 0, 4, 5])

    def test_one_rank_in_the_order_of_the_row(self):
        self.assertEqual(waits(STREAMS, 5, [(0, 1), (0, 2)]), [0, 5])
        self.assertEqual(waits(STREAMS, 5, [(0, 2), (0, 1)]), [0, 1])

    def test_ranks_in_one_minute_in_each_order(self):
        for row in itertools.permutations([(0, 0), (0, 1), (0, 2)]):
            told = dict(zip([place for minute, place in row], waits(STREAMS, 5, list(row))))
            ahead = row.index((0, 1)) < row.index((0, 2))
            self.assertEqual(told, {0: 0, 1: 2, 2: 7} if ahead else {0: 0, 1: 3, 2: 2})

    def test_a_greater_rank_goes_ahead_of_those_that_wait(self):
        self.assertEqual(waits([(1, 2, 1), (2, 2, 1)], 1, [(0, 0), (1, 0), (1, 1), (2, 0), (3, 1)]), [0, 5, 1, 6, 1])

    def test_four_ranks(self):
        streams = [(rank, 3, 1) for rank in (1, 3, 2, 4)]
        self.assertEqual(waits(streams, 1, [(0, 0), (1, 0), (1, 1), (1, 2), (1, 3)]), [0, 11, 5, 8, 2])

    def test_as_minute_by_minute(self):
        chance = random.Random(31)
        for turn in range(300):
            streams, speed, length = drawn_load(chance, 5, 30, 200)
            row = drawn_row(chance, streams, length)
            self.assertTrue(is_row(streams, length, row))
            self.assertEqual(waits(streams, speed, row), spelled_waits(streams, speed, row))


def drawn_load(chance, most_streams, most_length, most_words):
    streams = []
    for count in range(chance.randint(1, most_streams)):
        streams.append((chance.randint(1, 4), chance.randint(1, most_words), chance.randint(1, 8)))
    return streams, chance.randint(1, most_words), chance.randint(1, most_length)


def drawn_row(chance, streams, length):
    row, ready = [], [0] * len(streams)
    for minute in range(length):
        for place in chance.sample(range(len(streams)), len(streams)):
            if ready[place] <= minute and chance.random() < 0.5:
                row.append((minute, place))
                ready[place] = minute + streams[place][2]
    return row


def spelled_waits(streams, speed, row):
    """Tell the waits minute by minute, in the words of point 31."""
    told = [None] * len(row)
    busy, minute = 0, 0
    while None in told:
        if busy == 0:
            hung = [at for at in range(len(row)) if told[at] is None and row[at][0] <= minute]
            if hung:
                at = max(hung, key=lambda one: (streams[row[one][1]][0], -one))
                told[at] = minute - row[at][0]
                busy = len(range(0, streams[row[at][1]][1], speed))
        busy = max(0, busy - 1)
        minute += 1
    return told


def every_row(streams, length):
    """Tell all rows of a load."""
    waiting = [[]]
    while waiting:
        row = waiting.pop()
        yield row
        for minute in range(row[-1][0] if row else 0, length):
            for place, stream in enumerate(streams):
                own = [at for at, on in row if on == place]
                if not own or minute - own[-1] >= stream[2]:
                    waiting.append(row + [(minute, place)])


class Longest(unittest.TestCase):
    def holds(self, streams, speed, length, rank):
        """Hold that the told row is one, and that a message of the rank waits in it so long; tell the wait."""
        wait, row = longest_wait(streams, speed, length, rank), longest_row(streams, speed, length, rank)
        self.assertIs(is_row(streams, length, row), True, row)
        told = [one for one, part in zip(waits(streams, speed, row), row) if streams[part[1]][0] == rank]
        self.assertIn(wait, told, (streams, speed, length, rank))
        return wait

    def test_one_stream(self):
        self.assertEqual(self.holds([(1, 1, 1)], 1, 1, 1), 0)
        self.assertEqual(self.holds([(1, 2, 1)], 1, 3, 1), 2)
        self.assertEqual(self.holds([(1, 2, 2)], 1, 30, 1), 0)
        self.assertEqual(self.holds([(1, 200, 1)], 1, 30, 1), 29 * 199)

    def test_behind_a_lesser_rank(self):
        streams = [(4, 1, 10), (1, 20, 10)]
        self.assertEqual(self.holds(streams, 2, 5, 4), 9)
        self.assertEqual(self.holds(streams, 2, 1, 4), 0)
        self.assertEqual(self.holds(streams, 2, 5, 1), 1)

    def test_the_longest_of_several_lesser_ones(self):
        streams = [(4, 1, 10), (3, 5, 10), (1, 8, 10), (2, 6, 10)]
        self.assertEqual(self.holds(streams, 1, 5, 4), 7)
        self.assertEqual(self.holds(streams, 1, 5, 3), 7 + 1)
        self.assertEqual(self.holds(streams, 1, 5, 2), 7 + 1 + 5)
        self.assertEqual(self.holds(streams, 1, 5, 1), 1 + 5 + 6)

    def test_behind_others_of_the_rank(self):
        streams = [(2, 3, 9), (2, 4, 9), (2, 5, 9)]
        self.assertEqual(self.holds(streams, 1, 1, 2), 9)

    def test_all_rows_of_small_loads(self):
        chance = random.Random(32)
        loads = 0
        while loads < 130:
            streams = []
            for count in range(chance.randint(1, 3)):
                streams.append((chance.randint(1, 3), chance.randint(1, 5), chance.randint(1, 3)))
            speed, length = chance.randint(1, 3), chance.randint(1, 4)
            rows = list(itertools.islice(every_row(streams, length), 3001))
            if len(rows) > 3000:
                continue
            loads += 1
            most = {}
            for row in rows:
                for (minute, place), wait in zip(row, spelled_waits(streams, speed, row)):
                    rank = streams[place][0]
                    most[rank] = max(wait, most.get(rank, 0))
            for rank in most:
                self.assertEqual(self.holds(streams, speed, length, rank), most[rank], (streams, speed, length, rank))

    def test_no_row_of_great_loads_passes_it(self):
        chance = random.Random(33)
        for turn in range(60):
            streams, speed, length = drawn_load(chance, 5, 30, 40)
            longest = {stream[0]: self.holds(streams, speed, length, stream[0]) for stream in streams}
            for count in range(15):
                row = drawn_row(chance, streams, length)
                for (minute, place), wait in zip(row, waits(streams, speed, row)):
                    self.assertLessEqual(wait, longest[streams[place][0]], (streams, speed, length, row))

    def test_no_rank(self):
        for rank in (1, 3, 0, 5, -1, True, None, "4", "", [4], (4,), 10 ** 59):
            for tell in (longest_wait, longest_row):
                with self.assertRaises(NoRank, msg=rank):
                    tell(STREAMS, 5, 10, rank)
        with self.assertRaises(NoRank):
            longest_wait([(1, 1, 1)], 1, 1, True)


class OwnLists(unittest.TestCase):
    CALLS = [
        (is_row, [STREAMS, 10, [(0, 2), (0, 0), (1, 2)]]), (is_row, [STREAMS, 10, [(5, 0), [0, 0]]]),
        (waits, [STREAMS, 5, [(0, 2), (0, 0), (1, 2)]]), (waits, [STREAMS, 5, []]),
        (longest_wait, [STREAMS, 5, 10, 2]), (longest_row, [STREAMS, 5, 10, 2]), (longest_row, [STREAMS, 5, 1, 4]),
    ]

    def test_what_is_handed_in_stays_as_it_is(self):
        for ask, handed in self.CALLS:
            kept = copy.deepcopy(handed)
            ask(*handed)
            self.assertEqual(handed, kept)

    def test_what_is_told_is_the_askers_own(self):
        for ask, handed in self.CALLS:
            handed = copy.deepcopy(handed)
            told, again = ask(*handed), ask(*handed)
            self.assertEqual(told, again)
            if isinstance(told, list):
                self.assertIsNot(told, again)
                self.assertNotIn(id(told), [id(part) for part in handed])
                told.append(0)
                self.assertEqual(ask(*handed), again)
                kept = list(again)
                for part in handed:
                    if isinstance(part, list):
                        part.clear()
                self.assertEqual(again, kept)


if __name__ == "__main__":
    unittest.main()
