"""Point 9: the runs of a tape, and what is left of it."""

import random
import unittest

from tests.things import spelled_frame, spelled_runs
from tornrelay.code import hit_tape
from tornrelay.frames import framed, left_rows, runs

BODY = [5, 30, 17]
FRAME = [1, 30, 4, 27, 1, 1, 8, 5, 30, 17, 0]


class Runs(unittest.TestCase):
    def test_frame_at_the_start(self):
        self.assertEqual(FRAME, spelled_frame(BODY))
        self.assertEqual(runs(FRAME), [(0, BODY)])

    def test_frame_behind_zeros(self):
        self.assertEqual(runs([0] + FRAME), [(1, BODY)])
        self.assertEqual(runs([0, 0, 0] + FRAME + [0, 0]), [(3, BODY)])

    def test_run_that_is_no_frame(self):
        self.assertEqual(runs([1, 0]), [(0, [])])
        self.assertEqual(runs([0, 7, 8, 0, 0, 9, 0]), [(1, []), (5, [])])
        self.assertEqual(runs([31, 0]), [(0, [])])
        self.assertEqual(runs([1, 30, 1, 30, 1, 1, 1, 0]), [(0, [])])

    def test_frames_one_behind_another(self):
        self.assertEqual(runs(FRAME + framed([9]) + FRAME), [(0, BODY), (11, [9]), (20, BODY)])
        self.assertEqual(runs(FRAME + [0] + FRAME), [(0, BODY), (12, BODY)])

    def test_frame_behind_what_is_no_frame(self):
        self.assertEqual(runs([4, 0] + FRAME), [(0, []), (2, BODY)])
        self.assertEqual(runs([4] + FRAME), [(0, [])])

    def test_run_without_its_0_is_not_told(self):
        self.assertEqual(runs(FRAME[:-1]), [])
        self.assertEqual(runs(FRAME + FRAME[:-1]), [(0, BODY)])

    def test_no_0_nothing_but_0_and_an_empty_tape(self):
        self.assertEqual(runs([1, 2, 3]), [])
        self.assertEqual(runs([0]), [])
        self.assertEqual(runs([0, 0, 0]), [])
        self.assertEqual(runs([]), [])

    def test_hit_0_between_two_frames(self):
        for row in range(1, 32):
            self.assertEqual(runs(FRAME[:-1] + [row] + FRAME), [(0, [])])

    def test_longest_and_shortest_bodies(self):
        for body in ([1], [30], [1] * 600, [30] * 600):
            self.assertEqual(runs(framed(body)), [(0, body)])

    def test_body_of_more_than_600_rows_has_no_frame(self):
        self.assertEqual(runs(spelled_frame([1] * 601)), [(0, [])])
        self.assertEqual(runs(spelled_frame([30] * 850)), [(0, [])])

    def test_31_in_a_body_is_in_no_frame(self):
        self.assertEqual(runs(spelled_frame([31])), [(0, [])])
        self.assertEqual(runs(spelled_frame([1, 31, 2])), [(0, [])])

    def test_each_count_wrong_by_one(self):
        for place in range(7):
            for more in (-1, 1):
                tape = list(FRAME)
                tape[place] += more
                self.assertEqual([body for at, body in runs(tape) if body], [], tape)


class OneRowOtherwise(unittest.TestCase):
    def check(self, tape):
        self.assertEqual(runs(tape), spelled_runs(tape), tape)

    def test_put_otherwise(self):
        for frame in (FRAME, framed([3] * 30)):
            for place in range(len(frame)):
                for row in range(32):
                    self.check(frame[:place] + [row] + frame[place + 1:] + FRAME)

    def test_put_otherwise_to_another_body(self):
        other = FRAME[:7] + [6] + FRAME[8:]
        self.assertEqual(runs(other), [(0, [6, 30, 17])])

    def test_left_out(self):
        for place in range(len(FRAME) - 1):
            self.assertEqual(runs(FRAME[:place] + FRAME[place + 1:]), [(0, [])])

    def test_put_in(self):
        for place in range(len(FRAME)):
            for row in range(32):
                self.check(FRAME[:place] + [row] + FRAME[place:] + FRAME)
        for place in range(len(FRAME)):
            self.assertEqual(runs(FRAME[:place] + [9] + FRAME[place:]), [(0, [])])


class SentFrames(unittest.TestCase):
    """Frames sent one behind another, hit and broken off: just those that came whole are read."""

    def send(self, chance):
        tape, read, fresh = [], [], True
        for turn in range(12):
            body = [chance.randint(1, 30) for row in range(chance.choice((1, 2, 5, 31)))]
            frame = framed(body)
            masks = [chance.choice((0, 0, 0, 0, 0, 0, 0, 0, 0, 1, 16, 31)) for row in frame]
            if chance.random() < 0.6:
                masks = [0] * len(frame)
            came = hit_tape(frame, masks)
            broken = chance.random() < 0.2
            if broken:
                came = came[:chance.randrange(len(frame))] + [31, 0]
            if fresh and not broken and came == frame:
                read.append((len(tape), body))
            tape += came
            fresh = tape[-1] == 0
        return tape, read

    def test_just_the_frames_that_came_whole_are_read(self):
        chance = random.Random(9)
        many = 0
        for turn in range(300):
            tape, read = self.send(chance)
            self.assertEqual([run for run in runs(tape) if run[1]], read)
            many += len(read)
        self.assertGreater(many, 300)

    def test_any_hit_spoils_a_frame(self):
        for body in (BODY, [1], [30], [15] * 3):
            frame = framed(body)
            for place, row in enumerate(frame[:-1]):
                for mask in range(32):
                    hit = hit_tape(frame, [mask if at == place else 0 for at in range(len(frame))])
                    self.assertEqual(runs(hit), [(0, body if hit == frame else [])])


class LeftRows(unittest.TestCase):
    def test_rows_behind_the_last_0(self):
        self.assertEqual(left_rows([1, 0, 2, 0, 3, 4]), [3, 4])
        self.assertEqual(left_rows([0, 0, 31]), [31])
        self.assertEqual(left_rows(FRAME + FRAME[:-1]), FRAME[:-1])

    def test_nothing_is_left_behind_a_last_0(self):
        self.assertEqual(left_rows(FRAME), [])
        self.assertEqual(left_rows([0]), [])
        self.assertEqual(left_rows([1, 0, 0]), [])

    def test_all_is_left_without_a_0(self):
        self.assertEqual(left_rows([1, 2, 3]), [1, 2, 3])
        self.assertEqual(left_rows([]), [])


if __name__ == "__main__":
    unittest.main()
