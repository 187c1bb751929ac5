"""Point 12: the tape of a slip, and the slips of a tape."""

import random
import unittest

from tests.things import SLIPS, spelled_frame
from tornrelay.code import hit_tape, punch, read_tape
from tornrelay.frames import framed, runs
from tornrelay.slips import slip_tape, slip_writing, slips_on

VOID = ("void", 1, 2, 3)
# Of "v 1 2 3+": figures are read from the first of them on, blanks are the same in both.
VOID_BODY = [22, 27, 30, 1, 27, 2, 27, 3, 18]

LONGEST = ("message", 11, 9, 9999, 4, "f", 9999, "abc", "fde", "a1" * 100)


class Tapes(unittest.TestCase):
    def test_the_frame_of_what_is_punched(self):
        self.assertEqual(slip_tape(VOID), spelled_frame(VOID_BODY))
        for slip in SLIPS:
            self.assertEqual(slip_tape(slip), spelled_frame(punch(slip_writing(slip))))

    def test_what_it_says(self):
        for slip in SLIPS + [LONGEST]:
            [(place, body)] = runs(slip_tape(slip))
            self.assertEqual((place, read_tape(body)), (0, slip_writing(slip)))

    def test_the_longest(self):
        tape = slip_tape(LONGEST)
        self.assertGreater(len(tape), 400)
        self.assertEqual(slips_on(tape), [LONGEST])


class SlipsOn(unittest.TestCase):
    def test_each_slip_alone(self):
        for slip in SLIPS:
            self.assertEqual(slips_on(slip_tape(slip)), [slip])

    def test_in_order_of_the_runs(self):
        tape = [row for slip in SLIPS + SLIPS[::-1] for row in slip_tape(slip)]
        self.assertEqual(slips_on(tape), SLIPS + SLIPS[::-1])

    def test_tuples_within_tuples(self):
        for slip in slips_on(slip_tape(SLIPS[2]) + slip_tape(SLIPS[3])):
            self.assertIsInstance(slip, tuple)
            self.assertIsInstance(slip[-1], tuple)

    def test_several_0(self):
        tape = slip_tape(VOID)
        self.assertEqual(slips_on([0, 0] + tape + [0, 0, 0] + tape + [0]), [VOID, VOID])

    def test_nothing(self):
        self.assertEqual(slips_on([]), [])
        self.assertEqual(slips_on([0]), [])
        self.assertEqual(slips_on([0, 0, 0]), [])

    def test_without_its_0(self):
        tape = slip_tape(VOID)
        self.assertEqual(slips_on(tape[:-1]), [])
        self.assertEqual(slips_on(tape + tape[:-1]), [VOID])

    def test_spoilt_frames(self):
        tape = slip_tape(VOID)
        self.assertEqual(slips_on([9, 0] + tape + [31, 0] + tape + [1, 2, 0]), [(), VOID, (), VOID, ()])
        self.assertEqual(slips_on(tape[:4] + [31, 0] + tape), [(), VOID])
        self.assertEqual(slips_on([9] + tape), [()])
        self.assertEqual(slips_on(tape[1:]), [()])
        self.assertEqual(slips_on(tape[:-1] + tape), [()])

    def test_any_hit_spoils_it(self):
        tape = slip_tape(VOID)
        for place in range(len(tape) - 1):
            for mask in range(32):
                hit = hit_tape(tape, [0] * place + [mask] + [0] * (len(tape) - place - 1))
                self.assertEqual(slips_on(hit + tape), [VOID if hit == tape else (), VOID])

    def test_frames_of_other_writing(self):
        for writing in ("a", "v 1 2 3", "v 1 2 3++", "v 1 2 03+", "hello", "m 3 2 14 4 b 7 ac bd 2=a+", "q 1 1 2,1+"):
            self.assertEqual(slips_on(framed(punch(writing)) + slip_tape(VOID)), [(), VOID])

    def test_frames_of_no_writing(self):
        for body in ([30, 22], [29], [30], [22, 27, 30, 26], [29] * 600, [1] * 600, [1] * 401, [28]):
            self.assertEqual(slips_on(framed(body) + slip_tape(VOID)), [(), VOID])

    def test_frames_that_say_a_slip_but_are_punched_otherwise(self):
        bodies = [
            [29] + VOID_BODY, VOID_BODY + [29], VOID_BODY + [30],
            [22, 30, 27, 1, 27, 2, 27, 3, 18], [30] + [29] + VOID_BODY,
            [22, 27, 30, 30, 1, 27, 2, 27, 3, 18], [22, 27, 29, 30, 1, 27, 2, 27, 3, 18],
            [22, 27, 30, 1, 27, 30, 2, 27, 3, 18], [22, 27, 30, 1, 27, 2, 27, 3, 29, 30, 18],
        ]
        for body in bodies:
            self.assertEqual(read_tape(body), "v 1 2 3+")
            self.assertEqual(slips_on(framed(body)), [()], body)
            self.assertEqual(slips_on(framed(VOID_BODY) + framed(body) + framed(VOID_BODY)), [VOID, (), VOID])

    def test_tapes_of_chance(self):
        chance = random.Random(12)
        for turn in range(200):
            tape, told = [0] * chance.choice((0, 0, 1)), []
            for sending in range(chance.randrange(6)):
                slip = chance.choice(SLIPS)
                part, broken = slip_tape(slip), chance.random() < 0.3
                tape += part[:chance.randrange(1, len(part))] + [31, 0] if broken else part
                told.append(() if broken else slip)
            self.assertEqual(slips_on(tape), told)


if __name__ == "__main__":
    unittest.main()
