"""Points 16 to 18: the rows of a book, and what a book tells."""

import random
import unittest

from tests.plain import Plain
from tests.things import OTHER_PARTS, OTHER_THINGS, ROWS, one_part_otherwise, with_part
from tornrelay.books import Book, book_of, row_fits
from tornrelay.errors import NoBook


class BookCase(unittest.TestCase):
    def first_fault(self, thing, where, letter="c"):
        with self.assertRaises(NoBook, msg=repr(thing)) as caught:
            book_of(letter, thing)
        self.assertEqual(caught.exception.where, where, thing)

    def alike(self, book, plain):
        self.assertEqual(book.rows, plain.rows)
        self.assertEqual(book.hung_tapes(), plain.hung())
        self.assertEqual(book.given_tapes(), plain.given())
        asked = plain.asked()
        for line in range(12):
            self.assertEqual(book.missing_numbers(line), plain.missing(line))
            self.assertEqual(book.asked_numbers(line), sorted(one[1:] for one in asked if one[0] == line))
            for day in (1, 2, 9):
                self.assertEqual(book.last_number(line, day), plain.last(line, day))
                self.assertEqual(book.greatest_known(line, day), plain.greatest(line, day))


class Told(BookCase):
    def test_at_first_nothing(self):
        for book in (Book("a"), book_of("a", [])):
            self.assertEqual((book.rows, book.hung_tapes(), book.given_tapes()), ([], [], []))
            self.assertEqual((book.missing_numbers(0), book.asked_numbers(0), book.last_number(0, 1)), ([], [], 0))

    def test_of_rows_of_each_sort(self):
        book = book_of("c", ROWS)
        self.assertEqual(book.rows, ROWS)
        self.assertEqual(book.hung_tapes(), [
            (1, 3, "c", 1, "abd", "c", "come at 5"), (2, 4, "a", 9, "f", "abc", "go|home"),
        ])
        self.assertEqual(book.given_tapes(), [("c", 1, "come at 5"), ("a", 9, "go|home")])
        self.assertEqual([book.last_number(0, 1), book.last_number(0, 2), book.last_number(4, 1)], [2, 0, 0])
        self.assertEqual(book.missing_numbers(4), [(1, 1), (1, 3), (1, 5), (1, 6)])
        self.assertEqual(book.missing_numbers(0), [])
        self.assertEqual(book.asked_numbers(0), [(1, 1)])
        self.assertEqual(book.asked_numbers(4), [])

    def test_missing_on_the_first_day_and_the_last(self):
        book = book_of("c", [("check", 4, 9, 2), ("void", 4, 1, 2), ("void", 5, 9, 2), ("check", 4, 5, 1)])
        self.assertEqual(book.missing_numbers(4), [(1, 1), (5, 1), (9, 1), (9, 2)])
        self.assertEqual(book.missing_numbers(5), [(9, 1)])

    def test_slips_of_what_was_sent(self):
        book = book_of("c", ROWS)
        self.assertEqual(book.sent_slip((0, 1, 1)), ("void", 0, 1, 1))
        self.assertEqual(book.sent_slip((0, 1, 2)), ("message", 0, 1, 2, 4, "a", 9, "e", "abc", "go|home"))

    def test_hung_by_stamps_though_hung_again(self):
        rows = [("hand", 1, 1, "ab", ""), ("hand", 2, 4, "b", "x"), ("out", 1, 0, 1, 1, "ab")]
        self.assertEqual([tape[:5] for tape in book_of("c", rows).hung_tapes()], [(2, 4, "c", 2, "b")])
        rows.append(("broken", 0, 1, 1))
        self.assertEqual([tape[0] for tape in book_of("c", rows).hung_tapes()], [1, 2])

    def test_ways_hang_again_in_their_order(self):
        rows = [("hand", 1, 1, "abde", ""), ("out", 1, 0, 1, 1, "be"), ("out", 1, 0, 1, 2, "d"), ("broken", 0, 1, 1)]
        self.assertEqual(book_of("c", rows).hung_ways(1), "abe")
        self.assertEqual(book_of("c", rows + [("broken", 0, 1, 2)]).hung_ways(1), "abde")

    def test_a_number_broken_off_stays_the_last(self):
        rows = [("hand", 1, 1, "a", ""), ("out", 1, 0, 1, 1, "a"), ("broken", 0, 1, 1)]
        self.assertEqual(book_of("c", rows).last_number(0, 1), 1)
        self.first_fault(rows + [("out", 1, 0, 1, 1, "a")], 3)
        book_of("c", rows + [("out", 1, 0, 1, 2, "a")])

    def test_only_for_the_house_itself(self):
        book = book_of("c", [("hand", 1, 1, "c", "x")])
        self.assertEqual((book.hung_tapes(), book.given_tapes()), ([], [("c", 1, "x")]))


class Faults(BookCase):
    def test_what_is_no_list(self):
        for thing in OTHER_THINGS + ["", "hand", tuple(ROWS), ROWS[0]]:
            self.first_fault(thing, -1)

    def test_the_first_fault(self):
        for place in range(len(ROWS) + 1):
            for wrong in OTHER_THINGS + ["", "hand", [], list(ROWS[0]), ("hand",), ("tape", 1), ("", 1, 1, 1)]:
                self.first_fault(ROWS[:place] + [wrong] + ROWS[place:] + [wrong], place)

    def test_each_row_in_its_place_only(self):
        for place, row in enumerate(ROWS):
            self.first_fault(ROWS[:place + 1] + [row], place + 1)

    def test_another_house(self):
        self.first_fault(ROWS, 1, letter="d")
        self.first_fault([ROWS[1]], 0, letter="b")
        self.first_fault([("in", 1, 4, 1, 2, 4, "a", 9, "ef", "abcd", "x")], 0)
        self.first_fault([("in", 1, 4, 1, 2, 4, "a", 9, "ef", "acb", "x")], 0)

    def test_paths_of_what_came_in(self):
        row = ("in", 1, 4, 1, 2, 4, "a", 9, "cef", "abc", "x")
        book_of("c", [row])
        book_of("c", [with_part(row, 9, "ac")])
        book_of("c", [with_part(with_part(row, 8, "c"), 9, "abdefc")])
        for path in ("c", "", "ab", "abcc", "acbc", "aac", "bac", "gc", "aec", "afc", "acd", None, 3, ["a", "c"]):
            self.first_fault([with_part(row, 9, path)], 0)
        for path in ("abcc", "acbc", "acc", "abcec"):
            self.first_fault([with_part(with_part(row, 8, "f"), 9, path)], 0)
        self.first_fault([with_part(with_part(row, 6, "c"), 9, "c")], 0)
        self.first_fault([with_part(with_part(row, 6, "c"), 9, "cac")], 0)

    def test_stamps(self):
        for stamp in (0, 2, -1, True, False, None, "1", [1], (1,)):
            self.first_fault([with_part(ROWS[0], 1, stamp)], 0)
            self.first_fault([with_part(with_part(ROWS[1], 8, "ef"), 1, stamp)], 0)
        hand = ("hand", 1, 1, "a", "")
        for stamp in (0, 2, -1, 10 ** 59, True, None, "1", [1], (1,)):
            self.first_fault([hand, ("out", stamp, 0, 1, 1, "a")], 1)
        self.first_fault([hand, hand], 1)

    def test_ways_put_out(self):
        hand = ("hand", 1, 1, "abc", "")
        for ways in ("a", "b", "ab"):
            book_of("c", [hand, ("out", 1, 0, 1, 1, ways)])
        for ways in ("", "c", "ac", "abc", "d", "ba", "aa", None, 0, ["a"], ("a",)):
            self.first_fault([hand, ("out", 1, 0, 1, 1, ways)], 1)
        self.first_fault([hand, ("out", 1, 0, 1, 1, "a"), ("out", 1, 0, 1, 2, "ab")], 2)

    def test_ways_of_all_six_houses_are_handed_in(self):
        self.assertEqual(book_of("c", [("hand", 1, 4, "abcdef", "x" * 200)]).hung_ways(1), "abdef")
        self.first_fault([("hand", 1, 4, "abcdef", "x" * 201)], 0)

    def test_numbers_put_out(self):
        hand = ("hand", 1, 1, "abd", "")
        for number in (0, 2, 10000, True, None, "1"):
            self.first_fault([hand, ("out", 1, 0, 1, number, "a")], 1)
        rows = [hand, ("out", 1, 0, 1, 1, "a"), ("out", 1, 0, 2, 1, "b"), ("out", 1, 1, 1, 1, "d")]
        self.assertEqual(book_of("c", rows).rows, rows)
        self.first_fault(rows[:2] + [("out", 1, 0, 1, 1, "b")], 2)
        self.first_fault(rows[:2] + [("out", 1, 0, 1, 3, "b")], 2)

    def test_had_twice(self):
        row = ("in", 1, 4, 1, 2, 4, "a", 9, "ef", "abc", "x")
        self.first_fault([row, ("void", 4, 1, 2)], 1)
        self.first_fault([("void", 4, 1, 2), row], 1)
        self.first_fault([row, with_part(row, 1, 2)], 1)
        for place, part in ((2, 5), (3, 2), (4, 3)):
            book_of("c", [row, with_part(with_part(row, 1, 2), place, part)])

    def test_checks(self):
        book_of("c", [("check", 4, 1, 1), ("check", 4, 1, 2), ("check", 5, 1, 1), ("check", 4, 2, 1)])
        book_of("c", [("check", 4, 1, 1), ("void", 4, 1, 1), ("void", 4, 1, 2), ("check", 4, 1, 3)])
        self.first_fault([("check", 4, 1, 0)], 0)
        self.first_fault([("check", 4, 1, 10000)], 0)
        self.first_fault([("check", 4, 1, 2), ("check", 4, 1, 2)], 1)
        self.first_fault([("check", 4, 1, 2), ("check", 4, 1, 1)], 1)
        self.first_fault([("void", 4, 1, 5), ("void", 4, 1, 2), ("check", 4, 1, 5)], 2)
        self.first_fault([("check", 4, 1, 7), ("void", 4, 1, 5), ("check", 4, 1, 6)], 2)

    def test_asked_for_and_sent_again(self):
        rows = [("hand", 1, 1, "a", ""), ("out", 1, 0, 1, 1, "a")]
        ask, again, broken = ("ask", 0, 1, 1), ("again", 0, 1, 1), ("broken", 0, 1, 1)
        book_of("c", rows + [ask, again, ask, again, broken, ask, again])
        self.first_fault(rows + [again], 2)
        self.first_fault(rows + [ask, ask], 3)
        self.first_fault(rows + [ask, again, again], 4)
        self.first_fault(rows + [broken, broken], 3)
        for sort in ("ask", "broken"):
            for other in ((sort, 0, 1, 2), (sort, 0, 2, 1), (sort, 1, 1, 1), (sort, 0, 1, 0), (sort, 0, 1, True)):
                self.first_fault(rows + [other], 2)

    def test_one_part_otherwise(self):
        for place, row in enumerate(ROWS):
            book = book_of("c", ROWS[:place])
            plain = Plain("c", ROWS[:place])
            self.assertIs(row_fits(book, row), True)
            for thing in one_part_otherwise(row, OTHER_PARTS + ["c", "abc", "f", 3, 4, 5, 6, 7]):
                if [one.__class__ for one in thing] != [one.__class__ for one in row]:
                    self.assertIs(row_fits(book, thing), False, thing)
                elif row_fits(book, thing):
                    self.assertEqual((thing[0] == row[0], plain.fits(thing)), (True, True), thing)


class ManyBooks(BookCase):
    """Books of chance: a row is taken just where it fits by the words of point 18."""

    def row(self, chance, plain):
        sort = chance.choice("hand in in void out out out broken check ask ask again".split())
        line, day, number = chance.randrange(2), chance.choice((1, 2)), chance.randint(1, 6)
        ways = chance.choice(("a", "b", "c", "d", "ab", "ac", "bd", "abd", "acd"))
        near = chance.random() < 0.8
        stamp = len(plain.tapes()) + 1 if near else chance.randint(1, 4)
        if sort == "hand":
            return ("hand", stamp, chance.randint(1, 4), ways, "x")
        if sort == "in":
            path = chance.choice(("ec", "fec", "ec", "aec", "cec", "ef"))
            return ("in", stamp, line, day, number, 2, path[0], chance.randint(1, 3), ways, path, "y")
        if sort == "out":
            number = plain.last(line, day) + 1 if near else number
            return ("out", chance.randint(1, stamp), line, day, number, ways)
        if near and plain.sent() and sort in ("broken", "ask", "again"):
            line, day, number = chance.choice(plain.sent())
        return (sort, line, day, number)

    def test_just_what_fits_is_taken(self):
        chance = random.Random(18)
        taken = {}
        for turn in range(40):
            rows = []
            for step in range(120):
                plain = Plain("c", rows)
                row = self.row(chance, plain)
                if plain.fits(row):
                    rows = rows + [row]
                    taken[row[0]] = taken.get(row[0], 0) + 1
                else:
                    self.first_fault(rows + [row], len(rows))
            self.alike(book_of("c", rows), Plain("c", rows))
        self.assertEqual(len(taken), 8)
        self.assertGreater(min(taken.values()), 20, taken)


class OwnRows(unittest.TestCase):
    def test_a_change_behind_the_call_changes_nothing(self):
        rows = list(ROWS)
        book = book_of("c", rows)
        rows.clear()
        self.assertEqual(book.rows, ROWS)
        for ask in (book.hung_tapes, book.given_tapes, lambda: book.missing_numbers(4), lambda: book.asked_numbers(0)):
            told = ask()
            kept = list(told)
            told.clear()
            self.assertEqual(ask(), kept)

    def test_what_is_refused_stays_as_it_is(self):
        rows = ROWS + [("ask", 0, 1, [1])]
        with self.assertRaises(NoBook):
            book_of("c", rows)
        self.assertEqual(rows, ROWS + [("ask", 0, 1, [1])])


if __name__ == "__main__":
    unittest.main()
