"""Point 2: what is handed in stays as it is, and what is told is the asker's own."""

import copy
import unittest

from tests.things import SLIPS
from tornrelay.code import faults, hit_tape, punch, reach, read_tape, said_by_rows
from tornrelay.errors import Busy, NoBody, NoSlip, NoText
from tornrelay.frames import Reader, framed, left_rows, runs
from tornrelay.roads import all_channels, is_line, reached, road
from tornrelay.slips import is_slip, read_slip, slip_tape, slip_writing, slips_on
from tornrelay.wires import Wire

BODY = [3, 4, 5]
FRAME = framed([3, 4, 5])
TAPE = FRAME + [0, 7, 0] + FRAME + [30, 1, 26, 29]

SLIP_TAPE = slip_tape(SLIPS[0]) + [7, 0] + slip_tape(SLIPS[2])
LINES = [("b", "a", 2, 0, 24), ("c", "b", 1, 3, 9), ("a", "c", 1, 0, 24)]
# In no order, so that a list put in order where it stands would show.
LINKS = [(2, "a", "c"), (1, "c", "b"), (0, "b", "a"), (0, "a", "b")]

# A telling, and what is handed to it.
ASKED = [
    (said_by_rows, [TAPE]), (said_by_rows, [[]]),
    (faults, [TAPE]), (faults, [[1]]),
    (hit_tape, [TAPE, [0] * len(TAPE)]), (hit_tape, [TAPE, [9] * len(TAPE)]), (hit_tape, [[], []]),
    (punch, ["a1 |b"]), (punch, [""]),
    (framed, [BODY]),
    (runs, [TAPE]), (runs, [[1, 0]]), (runs, [[]]),
    (left_rows, [TAPE]), (left_rows, [[1, 2]]), (left_rows, [FRAME]), (left_rows, [[]]),
    (slip_tape, [SLIPS[0]]), (slip_tape, [SLIPS[3]]),
    (slips_on, [SLIP_TAPE]), (slips_on, [[1, 0]]), (slips_on, [[]]),
    (all_channels, [LINES]), (all_channels, [[]]),
    (road, [LINKS, "a", "c", "a"]), (road, [LINKS, "c", "a", "c"]), (road, [LINKS, "a", "b", "ab"]),
    (road, [LINKS, "a", "a", "a"]), (road, [LINKS, "b", "d", "b"]), (road, [[], "a", "b", "a"]),
]

# A telling of something else than a list, and what is handed to it.
ASKED_PLAINLY = [
    (reach, [TAPE, 1]), (read_tape, [TAPE]), (reached, [LINKS, "a", "a"]), (reached, [LINKS, "b", "bc"]),
    (is_slip, [list(SLIPS[2])]), (is_slip, [("check", 1, [1, 2])]), (is_line, [list(LINES[0]), 6]),
]


def lists_in(thing):
    """Gather all lists of a thing, itself and those within it."""
    found = [thing] if isinstance(thing, list) else []
    if isinstance(thing, (list, tuple)):
        for part in thing:
            found += lists_in(part)
    return found


def spoil(thing):
    for part in lists_in(thing):
        part.append(31)
        part.insert(0, 17)


class HandedIn(unittest.TestCase):
    def test_it_stays_as_it_is(self):
        wire = Wire()
        deeds = [(Reader().take, [TAPE]), (wire.send_rows, [TAPE]), (wire.run_rows, [[1] * 9])]
        for ask, handed in ASKED + ASKED_PLAINLY + deeds:
            kept = copy.deepcopy(handed)
            ask(*handed)
            self.assertEqual(handed, kept)

    def test_what_is_refused_stays_as_it_is(self):
        for ask, error, thing in (
            (framed, NoBody, [1, 0, 31]), (framed, NoBody, [[1], 2]), (punch, NoText, ["a", ["b"]]),
            (slip_writing, NoSlip, list(SLIPS[3])), (slip_tape, NoSlip, ("ask", 1, 1, [3, 2])),
            (read_slip, NoText, ["v", [1]]),
        ):
            kept = copy.deepcopy(thing)
            with self.assertRaises(error):
                ask(thing)
            self.assertEqual(thing, kept)

    def test_a_change_behind_the_call_changes_nothing_told(self):
        for ask, handed in ASKED:
            handed = copy.deepcopy(handed)
            told = ask(*handed)
            kept = copy.deepcopy(told)
            spoil(handed)
            self.assertEqual(told, kept)


class Told(unittest.TestCase):
    def test_no_list_stands_at_two_places_nor_is_handed_in(self):
        for ask, handed in ASKED:
            handed = copy.deepcopy(handed)
            once, twice = ask(*handed), ask(*handed)
            every = lists_in(once) + lists_in(twice) + lists_in(handed)
            self.assertEqual(len({id(one) for one in every}), len(every), ask)

    def test_a_change_of_what_was_told_changes_no_later_answer(self):
        for ask, handed in ASKED:
            handed = copy.deepcopy(handed)
            told = ask(*handed)
            kept = copy.deepcopy(told)
            spoil(told)
            self.assertEqual(ask(*handed), kept, ask)

    def test_what_was_told_may_be_handed_in_again(self):
        self.assertEqual(framed(runs(FRAME)[0][1]), FRAME)
        self.assertEqual(punch(read_tape(punch("a1"))), [1, 30, 1])
        first, spoilt, last = slips_on(SLIP_TAPE)
        self.assertEqual(slip_tape(first) + [7, 0] + slip_tape(last), SLIP_TAPE)
        self.assertEqual(road(all_channels(LINES), "c", "a", "c"), [(1, "c", "b"), (0, "b", "a")])


class Readers(unittest.TestCase):
    def test_a_change_of_a_part_behind_the_call_changes_nothing(self):
        for cut in range(len(FRAME)):
            reader = Reader()
            part = [0] + FRAME[:cut]
            self.assertEqual(reader.take(part), [])
            part.append(9)
            part[0] = 8
            self.assertEqual(reader.take(FRAME[cut:]), [[3, 4, 5]])

    def test_a_change_of_a_first_part_without_a_0_changes_nothing(self):
        reader = Reader()
        part = FRAME[:5]
        reader.take(part)
        part.clear()
        self.assertEqual(reader.take(FRAME[5:]), [[3, 4, 5]])

    def test_a_change_of_what_was_told_changes_nothing(self):
        reader = Reader()
        tape = [1, 0] + FRAME + [2, 0] + FRAME + FRAME[:8]
        told = reader.take(tape)
        self.assertEqual(told, [[], [3, 4, 5], [], [3, 4, 5]])
        self.assertEqual(len({id(one) for one in lists_in(told) + [tape]}), 6)
        spoil(told)
        self.assertEqual(reader.take([]), [])
        self.assertEqual(reader.take(FRAME[8:]), [[3, 4, 5]])

    def test_later_parts_change_nothing_told(self):
        reader = Reader()
        nothing = reader.take(FRAME[:3])
        told = reader.take(FRAME[3:] + FRAME[:3])
        self.assertEqual(reader.take(FRAME[3:]), [[3, 4, 5]])
        self.assertEqual(nothing, [])
        self.assertEqual(told, [[3, 4, 5]])

    def test_parts_without_a_0_are_told_of_with_lists_of_their_own(self):
        reader = Reader()
        told = [reader.take([]), reader.take([]), reader.take([5]), reader.take([0, 0])]
        self.assertEqual(told, [[], [], [], [[]]])
        self.assertEqual(len({id(one) for one in lists_in(told)}), 6)


class Wires(unittest.TestCase):
    def stands(self, wire, going, come):
        self.assertEqual((wire.rows_going(), wire.rows_come()), (going, come))

    def test_a_change_of_rows_and_masks_behind_the_call_changes_nothing(self):
        wire, rows, masks = Wire(), [1, 2, 3, 0], [0, 4]
        wire.send_rows(rows)
        spoil(rows)
        self.stands(wire, [1, 2, 3, 0], [])
        wire.run_rows(masks)
        spoil(masks)
        self.stands(wire, [3, 0], [1, 6])

    def test_a_change_of_what_was_told_changes_nothing(self):
        wire = Wire()
        wire.send_rows([1, 0, 2, 3])
        wire.run_rows([0, 0, 0])
        for told in (wire.rows_going(), wire.rows_come()):
            spoil(told)
        self.stands(wire, [3], [1, 0, 2])
        spoil(wire.tear_rows())
        self.stands(wire, [3], [2])
        spoil(wire.tear_rows())
        self.stands(wire, [3], [2])
        wire.run_rows([0])
        spoil(wire.tear_rows())
        self.stands(wire, [], [])
        spoil(wire.tear_rows())
        self.stands(wire, [], [])
        self.assertEqual(wire.tear_rows(), [])

    def test_later_deeds_change_nothing_told(self):
        wire = Wire()
        told = [wire.rows_going(), wire.rows_come(), wire.tear_rows()]
        wire.send_rows([1, 0, 2])
        told += [wire.rows_going(), wire.rows_come(), wire.tear_rows()]
        wire.run_rows([0, 0])
        told += [wire.rows_going(), wire.rows_come()]
        wire.break_rows()
        told += [wire.rows_come(), wire.tear_rows()]
        wire.send_rows([7])
        wire.run_rows([0])
        self.assertEqual(told, [[], [], [], [1, 0, 2], [], [], [2], [1, 0], [1, 0, 31, 0], [1, 0, 31, 0]])
        self.assertEqual(len({id(one) for one in told}), len(told))

    def test_what_is_refused_changes_nothing(self):
        wire, rows = Wire(), [5]
        wire.send_rows([1, 2])
        with self.assertRaises(Busy):
            wire.send_rows(rows)
        self.stands(wire, [1, 2], [])
        self.assertEqual(rows, [5])


if __name__ == "__main__":
    unittest.main()
