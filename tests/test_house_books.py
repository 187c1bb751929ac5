"""Point 18: a house made of a book, and what is no book."""

import copy
import itertools
import unittest

from tests.drawn import answer
from tests.plain import Plain
from tests.things import OTHER_PARTS, OTHER_THINGS, ROWS, one_part_otherwise, with_part, without
from tornrelay.errors import NoBook, RelayError
from tornrelay.houses import House, house_of

OTHERS = OTHER_PARTS + ["c", "abc", "f", "x" * 201, "A", 3, 4, 5, 6, 7, 9999, 10000]


def first_fault(thing, letter="c"):
    """Tell the place that a refusal names, None where the thing is taken."""
    try:
        house_of(letter, thing)
    except NoBook as refusal:
        return refusal.where
    return None


def spelled_fault(rows):
    """Tell the first place whose row doesn't fit behind those ahead; the rows are of the right form."""
    for place, row in enumerate(rows):
        if not Plain("c", rows[:place]).fits(row):
            return place
    return None


def told_of(house):
    """Tell all that is told of a house."""
    told = [house.book_rows(), house.hung_tapes(), house.given_here()]
    for line in range(12):
        told += [house.missing_on(line), house.asked_on(line), [house.last_out(line, day) for day in range(1, 10)]]
    return told


class Made(unittest.TestCase):
    def test_of_rows_of_each_sort(self):
        house = house_of("c", ROWS)
        self.assertIsInstance(house, House)
        self.assertEqual(house.book_rows(), ROWS)
        self.assertEqual(house.hung_tapes(), [
            (1, 3, "c", 1, "abd", "c", "come at 5"), (2, 4, "a", 9, "f", "abc", "go|home"),
        ])
        self.assertEqual(house.given_here(), [("c", 1, "come at 5"), ("a", 9, "go|home")])
        self.assertEqual([house.last_out(0, 1), house.last_out(0, 2), house.last_out(4, 1)], [2, 0, 0])
        self.assertEqual([house.missing_on(4), house.missing_on(0)], [[(1, 1), (1, 3), (1, 5), (1, 6)], []])
        self.assertEqual([house.asked_on(0), house.asked_on(4)], [[(1, 1)], []])

    def test_of_nothing(self):
        self.assertEqual(told_of(house_of("c", [])), told_of(House("c")))

    def test_it_goes_on(self):
        house = house_of("c", ROWS)
        self.assertEqual(house.hand_in(1, "b", "x"), 3)
        self.assertEqual(house.put_out(2, 0, 1, "f"), ("message", 0, 1, 3, 4, "a", 9, "f", "abc", "go|home"))
        self.assertEqual(house.put_again(0, 1, 1), ("void", 0, 1, 1))
        self.assertIs(house.slip_in(("void", 4, 1, 2)), False)
        self.assertIs(house.slip_in(("void", 4, 1, 6)), True)
        house.know(4, 1, 6)
        house.break_off(0, 1, 2)
        self.assertEqual(house.book_rows()[len(ROWS):], [
            ("hand", 3, 1, "b", "x"), ("out", 2, 0, 1, 3, "f"), ("again", 0, 1, 1), ("void", 4, 1, 6),
            ("broken", 0, 1, 2),
        ])

    def test_it_goes_on_as_the_first_one(self):
        first = House("c")
        slip = ("message", 4, 1, 2, 4, "a", 9, "cef", "ab", "go|home")
        deeds = [
            ("hand_in", 3, "abcd", "come at 5"), ("slip_in", slip), ("slip_in", ("void", 4, 1, 4)),
            ("put_out", 1, 0, 1, "ad"), ("put_out", 2, 0, 1, "e"), ("break_off", 0, 1, 1), ("know", 4, 1, 6),
            ("ask_for", 0, 1, 1), ("ask_for", 0, 1, 2), ("put_again", 0, 1, 2), ("put_out", 1, 0, 1, "ad"),
            ("put_out", 1, 0, 1, "ad"), ("slip_in", slip), ("put_again", 0, 1, 2), ("hand_in", 1, "c", ""),
        ]
        for name, *handed in deeds:
            again = house_of("c", first.book_rows())
            told = [answer(getattr(house, name), *handed) for house in (first, again)]
            self.assertEqual(told[0], told[1], (name, handed))
            self.assertEqual(told_of(first), told_of(again))
        self.assertEqual(first.book_rows()[:len(ROWS)], ROWS)


class NoBooks(unittest.TestCase):
    def test_what_is_no_list(self):
        for thing in OTHER_THINGS + ["", "hand", tuple(ROWS), ROWS[0], tuple(ROWS[:1]), ([],)]:
            self.assertEqual(first_fault(thing), -1, thing)

    def test_it_is_a_refusal(self):
        with self.assertRaises(RelayError):
            house_of("c", None)

    def test_what_is_no_row(self):
        wrong = OTHER_THINGS + ["", "hand", [], ("hand",), ("tape", 1), ("", 1, 1, 1), (["hand"], 1), ((), 1)]
        for place in range(len(ROWS) + 1):
            for row in wrong + [list(one) for one in ROWS]:
                self.assertEqual(first_fault(ROWS[:place] + [row] + ROWS[place:]), place, row)
                self.assertEqual(first_fault(ROWS[:place] + [row, row]), place, row)

    def test_one_part_otherwise(self):
        taken = 0
        for place, row in enumerate(ROWS):
            for other in one_part_otherwise(row, OTHERS):
                told = first_fault(ROWS[:place] + [other])
                if [part.__class__ for part in other] != [part.__class__ for part in row] or other[0] != row[0]:
                    self.assertEqual(told, place, other)
                elif told is None:
                    self.assertTrue(Plain("c", ROWS[:place]).fits(other), other)
                    taken += 1
                else:
                    self.assertEqual(told, place, other)
        self.assertGreater(taken, 50)

    def test_one_step_otherwise(self):
        """Each whole number one more and one less: what fits is what the plain telling takes."""
        taken = []
        for place, row in enumerate(ROWS):
            for at, step in itertools.product(range(1, len(row)), (-1, 1)):
                if not isinstance(row[at], int):
                    continue
                other = with_part(row, at, row[at] + step)
                fits = self.within(other) and Plain("c", ROWS[:place]).fits(other)
                self.assertEqual(first_fault(ROWS[:place] + [other]), None if fits else place, other)
                taken += [other] if fits else []
        self.assertIn(("void", 4, 1, 5), taken)
        self.assertIn(("check", 4, 1, 5), taken)
        self.assertNotIn(("hand", 2, 3, "abcd", "come at 5"), taken)

    def within(self, row):
        """Tell whether the numbers of a row are as in slips."""
        at = {"hand": None, "in": 2, "out": 2}.get(row[0], 1)
        if at is None:
            return row[2] in (1, 2, 3, 4)
        line, day, number = row[at:at + 3]
        ranked = row[0] != "in" or (row[5] in (1, 2, 3, 4) and 1 <= row[7] <= 9999)
        return 0 <= line <= 11 and 1 <= day <= 9 and 1 <= number <= 9999 and ranked

    def test_greatest_and_least_numbers(self):
        void, hand = ("void", 4, 1, 4), ("hand", 1, 3, "a", "")
        for place, good, bad in ((1, (0, 11), (-1, 12)), (2, (1, 9), (0, 10)), (3, (1, 9999), (0, 10000))):
            self.assertEqual([first_fault([with_part(void, place, number)]) for number in good], [None, None])
            self.assertEqual([first_fault([with_part(void, place, number)]) for number in bad], [0, 0])
        self.assertEqual([first_fault([with_part(hand, 2, rank)]) for rank in (0, 1, 4, 5)], [0, None, None, 0])
        row = ("in", 1, 4, 1, 2, 4, "a", 9, "ef", "abc", "x")
        self.assertEqual([first_fault([with_part(row, 7, serial)]) for serial in (0, 1, 9999, 10000)],
                         [0, None, None, 0])

    def test_a_row_left_out(self):
        for place in range(len(ROWS)):
            rows = without(ROWS, place)
            self.assertEqual(first_fault(rows), spelled_fault(rows), place)
        self.assertEqual(first_fault(ROWS[1:]), 0)
        self.assertEqual(first_fault(without(ROWS, 8)), 8)

    def test_two_rows_exchanged(self):
        faults = 0
        for one, other in itertools.combinations(range(len(ROWS)), 2):
            rows = list(ROWS)
            rows[one], rows[other] = rows[other], rows[one]
            self.assertEqual(first_fault(rows), spelled_fault(rows), (one, other))
            faults += first_fault(rows) is not None
        self.assertGreater(faults, 30)

    def test_a_row_twice(self):
        for place, row in enumerate(ROWS):
            for at in range(place, len(ROWS)):
                rows = ROWS[:at + 1] + [row] + ROWS[at + 1:]
                self.assertEqual(first_fault(rows), spelled_fault(rows), rows)
            self.assertEqual(first_fault(ROWS[:place + 1] + [row]), place + 1)

    def test_asked_for_again_behind_again(self):
        self.assertIsNone(first_fault(ROWS + [("ask", 0, 1, 2), ("again", 0, 1, 2), ("again", 0, 1, 1)]))
        self.assertEqual(first_fault(ROWS + [("again", 0, 1, 2)]), len(ROWS))
        self.assertEqual(first_fault(ROWS + [("ask", 0, 1, 1)]), len(ROWS))
        self.assertEqual(first_fault(ROWS + [("ask", 0, 1, 3)]), len(ROWS))

    def test_the_path_of_what_came_in(self):
        row = ("in", 1, 4, 1, 2, 4, "a", 9, "ef", "abc", "x")
        good = ["ac", "abc", "abdc", "adbc"]
        bad = ["c", "", "a", "ab", "cab", "acb", "acbc", "abcc", "aac", "bac", "aec", "abcd", "gc", " c"]
        self.assertEqual([first_fault([with_part(row, 9, path)]) for path in good], [None] * len(good))
        for path in bad + [None, 0, ["a", "c"]]:
            self.assertEqual(first_fault([with_part(row, 9, path)]), 0, path)
        self.assertIsNone(first_fault([with_part(row, 8, "cef")]))
        for ways in ("a", "b", "ac", "abef", "fe", "ee", "", "g"):
            self.assertEqual(first_fault([with_part(row, 8, ways)]), 0, ways)

    def test_another_house(self):
        for letter in "abdef":
            self.assertEqual(first_fault([ROWS[1]], letter), 0)
            self.assertEqual(first_fault(ROWS, letter), 1)
        self.assertIsNone(first_fault(ROWS[:1], "f"))

    def test_texts(self):
        row = ("hand", 1, 3, "a", "")
        for text in ("", "x" * 200, "a b|c 1-/.,?()+:='"):
            self.assertIsNone(first_fault([with_part(row, 4, text)]))
        for text in ("x" * 201, "*", "A", "a;b", "~", "\"", None, 5, ["a"], ("a",)):
            self.assertEqual(first_fault([with_part(row, 4, text)]), 0)


class OwnLists(unittest.TestCase):
    def test_what_is_handed_in_stays(self):
        for rows in (list(ROWS), ROWS + [["hand"]], ROWS + [("ask", 0, 1, [1])], [[1], ROWS[0]]):
            kept = copy.deepcopy(rows)
            first_fault(rows)
            self.assertEqual(rows, kept)

    def test_a_change_behind_the_call_changes_nothing(self):
        rows = list(ROWS)
        house = house_of("c", rows)
        told = told_of(house)
        rows.append(("void", 4, 1, 1))
        rows.pop(0)
        self.assertEqual(told_of(house), told)

    def test_deeds_change_nothing_handed_in_nor_told(self):
        rows = list(ROWS)
        house = house_of("c", rows)
        told = told_of(house)
        kept = copy.deepcopy(told)
        house.hand_in(1, "a", "")
        house.slip_in(("void", 4, 1, 1))
        house.put_again(0, 1, 1)
        self.assertEqual(rows, ROWS)
        self.assertEqual(told, kept)
        self.assertNotEqual(told_of(house), kept)

    def test_what_is_told_is_the_askers_own(self):
        house = house_of("c", ROWS)
        kept = copy.deepcopy(told_of(house))
        once, twice = told_of(house), told_of(house)
        for one, other in zip(once, twice):
            self.assertIsNot(one, other)
        for one in once:
            one.insert(0, "other")
        self.assertEqual(twice, kept)
        self.assertEqual(told_of(house), kept)
        self.assertEqual(house.hand_in(1, "a", ""), 3)
        self.assertEqual(len({id(one) for one in told_of(house) + twice}), 2 * len(kept))


if __name__ == "__main__":
    unittest.main()
