"""Point 15: a wire, its rows that are going and those that have come."""

import random
import unittest

from tornrelay.errors import Busy
from tornrelay.wires import Wire


class WireCase(unittest.TestCase):
    def setUp(self):
        self.wire = Wire()

    def stands(self, going, come):
        self.assertEqual(self.wire.rows_going(), going)
        self.assertEqual(self.wire.rows_come(), come)


class Sending(WireCase):
    def test_at_first_nothing(self):
        self.stands([], [])

    def test_rows_sent_are_going(self):
        self.assertIsNone(self.wire.send_rows([1, 2, 3]))
        self.stands([1, 2, 3], [])

    def test_any_rows(self):
        for rows in ([0], [31], [0, 0, 31], list(range(32))):
            wire = Wire()
            wire.send_rows(rows)
            self.assertEqual(wire.rows_going(), rows)

    def test_busy_while_some_are_going(self):
        self.wire.send_rows([1, 2, 3])
        with self.assertRaises(Busy):
            self.wire.send_rows([4])
        self.stands([1, 2, 3], [])
        self.wire.run_rows([0, 0])
        with self.assertRaises(Busy):
            self.wire.send_rows([4, 5])
        self.stands([3], [1, 2])

    def test_sent_anew_behind_all_that_went_over(self):
        self.wire.send_rows([1, 0])
        self.wire.run_rows([0, 0])
        self.wire.send_rows([5])
        self.stands([5], [1, 0])


class Running(WireCase):
    def test_fewer_masks_than_rows(self):
        self.wire.send_rows([1, 2, 3, 4])
        self.assertEqual(self.wire.run_rows([0]), 1)
        self.stands([2, 3, 4], [1])
        self.assertEqual(self.wire.run_rows([0, 0]), 2)
        self.stands([4], [1, 2, 3])

    def test_as_many_masks_as_rows(self):
        self.wire.send_rows([1, 2, 3])
        self.assertEqual(self.wire.run_rows([0, 0, 0]), 3)
        self.stands([], [1, 2, 3])

    def test_more_masks_than_rows(self):
        self.wire.send_rows([1, 2, 3])
        self.assertEqual(self.wire.run_rows([0, 0, 0, 31, 31]), 3)
        self.stands([], [1, 2, 3])

    def test_no_masks(self):
        self.wire.send_rows([1, 2])
        self.assertEqual(self.wire.run_rows([]), 0)
        self.stands([1, 2], [])

    def test_nothing_going(self):
        self.assertEqual(self.wire.run_rows([0, 4]), 0)
        self.assertEqual(self.wire.run_rows([]), 0)
        self.stands([], [])

    def test_holes_of_masks_are_punched_too(self):
        self.wire.send_rows([1, 0, 3, 31, 16, 5])
        self.assertEqual(self.wire.run_rows([2, 7, 1]), 3)
        self.stands([31, 16, 5], [3, 7, 3])
        self.assertEqual(self.wire.run_rows([9, 0, 31]), 3)
        self.stands([], [3, 7, 3, 31, 16, 31])


class Breaking(WireCase):
    def test_with_rows_going(self):
        self.wire.send_rows([1, 2, 3])
        self.wire.run_rows([0])
        self.assertIs(self.wire.break_rows(), True)
        self.stands([], [1, 31, 0])

    def test_ahead_of_the_first_row(self):
        self.wire.send_rows([0])
        self.assertIs(self.wire.break_rows(), True)
        self.stands([], [31, 0])

    def test_with_none_going(self):
        self.assertIs(self.wire.break_rows(), False)
        self.stands([], [])
        self.wire.send_rows([1, 2])
        self.wire.run_rows([0, 0])
        self.assertIs(self.wire.break_rows(), False)
        self.stands([], [1, 2])

    def test_twice(self):
        self.wire.send_rows([7])
        self.assertEqual([self.wire.break_rows(), self.wire.break_rows()], [True, False])
        self.stands([], [31, 0])

    def test_sent_anew(self):
        self.wire.send_rows([7, 8])
        self.wire.break_rows()
        self.wire.send_rows([9])
        self.stands([9], [31, 0])


class Tearing(WireCase):
    def come(self, rows, going):
        self.wire.send_rows(rows + going)
        self.wire.run_rows([0] * len(rows))

    def test_nothing_there(self):
        self.assertEqual(self.wire.tear_rows(), [])
        self.wire.send_rows([1])
        self.assertEqual(self.wire.tear_rows(), [])
        self.stands([1], [])

    def test_while_rows_are_going_up_to_the_last_0(self):
        self.come([1, 0, 2, 0, 3, 4], [5, 0])
        self.assertEqual(self.wire.tear_rows(), [1, 0, 2, 0])
        self.stands([5, 0], [3, 4])
        self.assertEqual(self.wire.tear_rows(), [])
        self.stands([5, 0], [3, 4])
        self.wire.run_rows([0, 0])
        self.assertEqual(self.wire.tear_rows(), [3, 4, 5, 0])
        self.stands([], [])

    def test_while_rows_are_going_without_a_0(self):
        self.come([1, 2], [3])
        self.assertEqual(self.wire.tear_rows(), [])
        self.stands([3], [1, 2])

    def test_while_rows_are_going_with_a_0_last(self):
        self.come([1, 0, 0], [3])
        self.assertEqual(self.wire.tear_rows(), [1, 0, 0])
        self.stands([3], [])

    def test_while_none_are_going_all(self):
        self.come([1, 0, 2, 0], [])
        self.assertEqual(self.wire.tear_rows(), [1, 0, 2, 0])
        self.stands([], [])

    def test_while_none_are_going_with_a_0_more_where_the_last_is_none(self):
        self.come([1, 0, 2], [])
        self.assertEqual(self.wire.tear_rows(), [1, 0, 2, 0])
        self.stands([], [])
        self.come([7], [])
        self.assertEqual(self.wire.tear_rows(), [7, 0])
        self.assertEqual(self.wire.tear_rows(), [])

    def test_what_was_broken_off(self):
        self.come([1, 2], [3])
        self.wire.break_rows()
        self.assertEqual(self.wire.tear_rows(), [1, 2, 31, 0])
        self.stands([], [])

    def test_a_0_that_was_hit(self):
        self.wire.send_rows([1, 0])
        self.wire.run_rows([0, 4])
        self.wire.send_rows([2, 0])
        self.wire.run_rows([0])
        self.assertEqual(self.wire.tear_rows(), [])
        self.wire.run_rows([0])
        self.assertEqual(self.wire.tear_rows(), [1, 4, 2, 0])


class TwoWires(unittest.TestCase):
    def test_they_have_nothing_in_common(self):
        one, other = Wire(), Wire()
        one.send_rows([1, 0])
        other.send_rows([2, 0])
        one.run_rows([0, 0])
        self.assertEqual((other.rows_going(), other.rows_come()), ([2, 0], []))
        other.break_rows()
        self.assertEqual((one.rows_going(), one.rows_come()), ([], [1, 0]))
        self.assertEqual([one.tear_rows(), other.tear_rows()], [[1, 0], [31, 0]])


class ManyDeeds(unittest.TestCase):
    """Deeds of chance, beside a plain second wire: two texts of signs, one for each row."""

    def test_as_by_texts(self):
        chance = random.Random(15)
        for turn in range(150):
            wire, going, come = Wire(), "", ""
            for deed in range(40):
                word = chance.choice(("send", "run", "run", "break", "tear", "tear"))
                if word == "send" and not going:
                    rows = [chance.choice((0, 0, 1, 9, 31)) for row in range(chance.randint(1, 8))]
                    wire.send_rows(rows)
                    going = "".join(chr(row) for row in rows)
                if word == "run":
                    masks = [chance.choice((0, 0, 0, 2)) for mask in range(chance.randrange(5))]
                    self.assertEqual(wire.run_rows(masks), min(len(masks), len(going)))
                    come += "".join(chr(ord(sign) | mask) for sign, mask in zip(going, masks))
                    going = going[len(masks):]
                if word == "break":
                    self.assertEqual(wire.break_rows(), going != "")
                    come += "\x1f\0" if going else ""
                    going = ""
                if word == "tear":
                    torn = come[:come.rfind("\0") + 1] if going else come
                    come = come[len(torn):]
                    torn += "\0" if torn and torn[-1] != "\0" else ""
                    self.assertEqual(wire.tear_rows(), [ord(sign) for sign in torn])
                self.assertEqual(wire.rows_going(), [ord(sign) for sign in going])
                self.assertEqual(wire.rows_come(), [ord(sign) for sign in come])


if __name__ == "__main__":
    unittest.main()
