"""Point 10: a reader takes a tape in parts."""

import random
import unittest

from tornrelay.frames import Reader, framed, runs

SHORT = framed([9, 4])
LONG = framed([7, 1, 30] * 20)
TAPES = [
    [],
    [0],
    [0, 0, 0],
    [1, 2, 3],
    [5, 0, 6],
    SHORT,
    [0, 0] + SHORT + [0] + SHORT,
    SHORT[:-1] + [3] + SHORT,
    SHORT[:5] + [31, 0] + LONG + SHORT[:-1],
    LONG + SHORT + LONG + [0, 8, 0] + LONG[:-2],
]


def bodies(tape):
    return [body for place, body in runs(tape)]


def taken(parts):
    reader = Reader()
    told = []
    for part in parts:
        told += reader.take(part)
    return told


class Parts(unittest.TestCase):
    def test_whole(self):
        for tape in TAPES:
            self.assertEqual(taken([tape]), bodies(tape))

    def test_row_by_row(self):
        for tape in TAPES:
            self.assertEqual(taken([[row] for row in tape]), bodies(tape))

    def test_parts_of_one_length(self):
        for tape in TAPES:
            for size in (2, 3, 7, 8, 50):
                parts = [tape[at:at + size] for at in range(0, len(tape), size)]
                self.assertEqual(taken(parts), bodies(tape))

    def test_two_parts_with_empty_ones_among_them(self):
        for tape in TAPES:
            for at in range(len(tape) + 1):
                self.assertEqual(taken([[], tape[:at], [], [], tape[at:], []]), bodies(tape))

    def test_parts_of_many_lengths(self):
        chance = random.Random(10)
        for turn in range(200):
            tape = []
            while len(tape) < 300:
                tape += chance.choice((SHORT, LONG, [0], [4], LONG[:20], SHORT[2:], [31, 0]))
            cuts = sorted(chance.randint(0, len(tape)) for cut in range(chance.randint(0, 12)))
            parts = [tape[first:last] for first, last in zip([0] + cuts, cuts + [len(tape)])]
            self.assertEqual(taken(parts), bodies(tape))

    def test_1500_rows_row_by_row(self):
        tape = framed([2] * 600) + framed([28] * 600) + SHORT * 29
        tape = tape[:1500]
        self.assertEqual(len(tape), 1500)
        self.assertEqual(taken([[row] for row in tape]), bodies(tape))


class EachPart(unittest.TestCase):
    def test_a_run_is_told_with_the_part_that_brings_its_0(self):
        reader = Reader()
        self.assertEqual(reader.take(SHORT[:4]), [])
        self.assertEqual(reader.take([]), [])
        self.assertEqual(reader.take(SHORT[4:-1]), [])
        self.assertEqual(reader.take([0]), [[9, 4]])
        self.assertEqual(reader.take([0, 0]), [])
        self.assertEqual(reader.take([6, 0] + SHORT + SHORT[:3]), [[], [9, 4]])
        self.assertEqual(reader.take(SHORT[3:] + [1]), [[9, 4]])
        self.assertEqual(reader.take([0]), [[]])

    def test_a_part_without_a_0_tells_nothing(self):
        reader = Reader()
        for row in SHORT[:-1]:
            self.assertEqual(reader.take([row]), [])
        self.assertEqual(reader.take([0]), [[9, 4]])

    def test_two_readers_at_once(self):
        one, other = Reader(), Reader()
        self.assertEqual(one.take(SHORT[:6]), [])
        self.assertEqual(other.take(LONG[:30]), [])
        self.assertEqual(one.take(SHORT[6:]), [[9, 4]])
        self.assertEqual(other.take(LONG[30:]), [[7, 1, 30] * 20])
        self.assertEqual(one.take([0]), [])


if __name__ == "__main__":
    unittest.main()
