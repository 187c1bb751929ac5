"""Points 16, 17, 19 and 20: the deeds of a house, the rows that they write, and what is told of it."""

import random
import unittest

from tests.drawn import answer
from tests.plain import Plain
from tornrelay.errors import NoHung, NoNumber, RelayError
from tornrelay.houses import House, house_of

MESSAGE = ("message", 4, 1, 2, 4, "a", 9, "cef", "ab", "go|home")


class HouseCase(unittest.TestCase):
    def setUp(self):
        self.house = House("c")

    def wrote(self, *rows):
        """Hold that the last rows of the book are these, and forget them: they were looked at."""
        self.assertEqual(self.house.book_rows()[self.seen:], list(rows))
        self.seen += len(rows)

    seen = 0

    def refused(self, error, deed, *handed):
        kept = self.house.book_rows()
        with self.assertRaises(error):
            deed(*handed)
        self.assertEqual(self.house.book_rows(), kept)


class AtFirst(HouseCase):
    def test_nothing_is_told(self):
        house = self.house
        self.assertEqual([house.book_rows(), house.hung_tapes(), house.given_here()], [[], [], []])
        self.assertEqual([house.missing_on(0), house.asked_on(0), house.last_out(0, 1)], [[], [], 0])


class HandedIn(HouseCase):
    def test_stamps_and_rows(self):
        self.assertEqual(self.house.hand_in(3, "abcd", "come at 5"), 1)
        self.wrote(("hand", 1, 3, "abcd", "come at 5"))
        self.assertEqual(self.house.hand_in(1, "c", ""), 2)
        self.wrote(("hand", 2, 1, "c", ""))

    def test_origin_serial_and_path(self):
        self.house.hand_in(3, "abcd", "come at 5")
        self.assertEqual(self.house.hung_tapes(), [(1, 3, "c", 1, "abd", "c", "come at 5")])
        self.assertEqual(self.house.given_here(), [("c", 1, "come at 5")])

    def test_for_the_house_alone_nothing_hangs(self):
        self.house.hand_in(3, "c", "x")
        self.assertEqual((self.house.hung_tapes(), self.house.given_here()), ([], [("c", 1, "x")]))

    def test_for_others_alone_nothing_is_given(self):
        self.house.hand_in(3, "ab", "x")
        self.assertEqual((self.house.hung_tapes(), self.house.given_here()), ([(1, 3, "c", 1, "ab", "c", "x")], []))

    def test_stamps_count_on_over_both_sorts(self):
        self.assertEqual(self.house.hand_in(1, "a", ""), 1)
        self.house.slip_in(MESSAGE)
        self.assertEqual(self.house.hand_in(1, "a", ""), 3)
        self.house.slip_in(("void", 4, 1, 1))
        self.house.slip_in(("message", 5) + MESSAGE[2:])
        self.assertEqual(self.house.hand_in(1, "a", ""), 5)
        self.assertEqual([tape[:4] for tape in self.house.hung_tapes()], [
            (1, 1, "c", 1), (2, 4, "a", 9), (3, 1, "c", 3), (4, 4, "a", 9), (5, 1, "c", 5),
        ])


class CameIn(HouseCase):
    def test_a_message(self):
        self.assertIs(self.house.slip_in(MESSAGE), True)
        self.wrote(("in", 1, 4, 1, 2, 4, "a", 9, "cef", "abc", "go|home"))
        self.assertEqual(self.house.hung_tapes(), [(1, 4, "a", 9, "ef", "abc", "go|home")])
        self.assertEqual(self.house.given_here(), [("a", 9, "go|home")])

    def test_an_empty_one(self):
        self.assertIs(self.house.slip_in(("void", 4, 1, 2)), True)
        self.wrote(("void", 4, 1, 2))
        self.assertEqual((self.house.hung_tapes(), self.house.given_here()), ([], []))

    def test_what_is_had(self):
        self.house.slip_in(MESSAGE)
        self.house.slip_in(("void", 4, 1, 3))
        kept = self.house.book_rows()
        for slip in (MESSAGE, ("void", 4, 1, 2), MESSAGE[:3] + (3,) + MESSAGE[4:], ("void", 4, 1, 3),
                     MESSAGE[:4] + (1, "f", 1, "e", "f", "other")):
            self.assertIs(self.house.slip_in(slip), False)
            self.assertEqual(self.house.book_rows(), kept)

    def test_had_by_line_and_day(self):
        for line, day, number in ((4, 1, 2), (5, 1, 2), (4, 2, 2), (4, 1, 3), (11, 9, 9999)):
            self.assertIs(self.house.slip_in(("message", line, day, number) + MESSAGE[4:]), True)
        self.assertEqual(len(self.house.given_here()), 5)

    def test_given_by_stamps(self):
        self.house.slip_in(MESSAGE)
        self.house.hand_in(1, "ac", "x")
        self.house.hand_in(1, "a", "y")
        self.house.slip_in(("message", 4, 1, 1, 1, "b", 3, "c", "b", ""))
        self.assertEqual(self.house.given_here(), [("a", 9, "go|home"), ("c", 2, "x"), ("b", 3, "")])


class Known(HouseCase):
    def test_numbers_up_to_one(self):
        self.assertIsNone(self.house.know(4, 1, 3))
        self.wrote(("check", 4, 1, 3))
        self.assertEqual(self.house.missing_on(4), [(1, 1), (1, 2), (1, 3)])
        self.assertIsNone(self.house.know(4, 1, 4))
        self.wrote(("check", 4, 1, 4))

    def test_nothing_new(self):
        self.assertIsNone(self.house.know(4, 1, 0))
        self.wrote()
        self.house.know(4, 1, 3)
        self.wrote(("check", 4, 1, 3))
        for number in (3, 2, 1, 0):
            self.assertIsNone(self.house.know(4, 1, number))
        self.wrote()

    def test_as_great_a_one_is_had(self):
        for slip in (MESSAGE[:3] + (5,) + MESSAGE[4:], ("void", 4, 2, 5)):
            self.house.slip_in(slip)
            self.house.slip_in(slip[:3] + (2,) + slip[4:])
            self.seen = len(self.house.book_rows())
            self.house.know(4, slip[2], 5)
            self.house.know(4, slip[2], 4)
            self.wrote()
            self.house.know(4, slip[2], 6)
            self.wrote(("check", 4, slip[2], 6))

    def test_by_line_and_day(self):
        for line, day in ((4, 1), (4, 2), (5, 1)):
            self.house.know(line, day, 1)
            self.wrote(("check", line, day, 1))

    def test_missing_by_lines_and_days(self):
        self.house.slip_in(("void", 4, 2, 3))
        self.house.slip_in(("void", 4, 2, 1))
        self.house.know(4, 1, 2)
        self.house.know(4, 9, 1)
        self.house.know(5, 1, 1)
        self.assertEqual(self.house.missing_on(4), [(1, 1), (1, 2), (2, 2), (9, 1)])
        self.assertEqual(self.house.missing_on(5), [(1, 1)])
        self.assertEqual(self.house.missing_on(0), [])
        self.house.slip_in(("void", 4, 1, 1))
        self.house.slip_in(("message", 4, 2, 2) + MESSAGE[4:])
        self.assertEqual(self.house.missing_on(4), [(1, 2), (9, 1)])


class PutOut(HouseCase):
    def setUp(self):
        super().setUp()
        self.house.hand_in(3, "abcd", "come at 5")
        self.house.slip_in(MESSAGE)
        self.seen = 2

    def test_slips_and_rows(self):
        told = self.house.put_out(1, 0, 1, "ad")
        self.assertEqual(told, ("message", 0, 1, 1, 3, "c", 1, "ad", "c", "come at 5"))
        self.wrote(("out", 1, 0, 1, 1, "ad"))
        told = self.house.put_out(2, 0, 1, "e")
        self.assertEqual(told, ("message", 0, 1, 2, 4, "a", 9, "e", "abc", "go|home"))
        self.wrote(("out", 2, 0, 1, 2, "e"))
        self.assertEqual([(tape[0], tape[4]) for tape in self.house.hung_tapes()], [(1, "b"), (2, "f")])

    def test_numbers_by_line_and_day(self):
        numbers = []
        for stamp, line, day, ways in ((1, 0, 1, "a"), (1, 0, 1, "b"), (1, 1, 1, "d"), (2, 0, 2, "e"), (2, 0, 1, "f")):
            self.assertEqual(self.house.last_out(line, day) + 1, self.house.put_out(stamp, line, day, ways)[3])
            numbers.append(self.house.last_out(line, day))
        self.assertEqual(numbers, [1, 2, 1, 1, 3])
        self.assertEqual(self.house.hung_tapes(), [])
        self.assertEqual(self.house.last_out(1, 2), 0)

    def test_ways_that_do_not_hang(self):
        self.house.put_out(1, 0, 1, "d")
        for stamp, ways in ((1, "d"), (1, "ad"), (1, "c"), (1, "ac"), (1, "e"), (2, "a"), (2, "c"), (2, "cef"),
                            (3, "a"), (0, "a"), (-1, "a"), (10 ** 59, "e"), (-10 ** 59, "e")):
            self.refused(NoHung, self.house.put_out, stamp, 0, 1, ways)
        self.assertEqual(self.house.last_out(0, 1), 1)

    def test_broken_off_its_ways_hang_again_and_its_number_is_empty(self):
        self.house.put_out(1, 0, 1, "ad")
        self.assertIsNone(self.house.break_off(0, 1, 1))
        self.assertEqual(self.house.book_rows()[-2:], [("out", 1, 0, 1, 1, "ad"), ("broken", 0, 1, 1)])
        self.assertEqual(self.house.hung_tapes()[0], (1, 3, "c", 1, "abd", "c", "come at 5"))
        self.assertEqual(self.house.last_out(0, 1), 1)
        self.assertEqual(self.house.put_out(1, 0, 1, "ab")[3], 2)

    def test_broken_off_by_any_number(self):
        self.house.put_out(1, 0, 1, "a")
        self.house.put_out(1, 0, 1, "b")
        self.house.break_off(0, 1, 1)
        self.house.break_off(0, 1, 2)
        self.assertEqual(self.house.hung_tapes()[0][4], "abd")

    def test_what_can_not_be_broken_off(self):
        self.house.put_out(1, 0, 1, "ad")
        for handed in ((0, 1, 2), (0, 1, 0), (0, 2, 1), (1, 1, 1), (4, 1, 2)):
            self.refused(NoNumber, self.house.break_off, *handed)
        self.house.break_off(0, 1, 1)
        self.refused(NoNumber, self.house.break_off, 0, 1, 1)


class AskedFor(HouseCase):
    def setUp(self):
        super().setUp()
        self.house.hand_in(3, "abd", "come at 5")
        self.slips = [self.house.put_out(1, 0, 1, way) for way in "abd"]
        self.house.break_off(0, 1, 2)
        self.seen = 5

    def test_numbers_sent(self):
        for number in (3, 1, 2):
            self.assertIsNone(self.house.ask_for(0, 1, number))
            self.wrote(("ask", 0, 1, number))
        self.assertEqual(self.house.asked_on(0), [(1, 1), (1, 2), (1, 3)])
        self.assertEqual(self.house.asked_on(1), [])

    def test_nothing_is_written(self):
        for line, day, number in ((0, 1, 4), (0, 1, 0), (0, 2, 1), (1, 1, 1)):
            self.assertIsNone(self.house.ask_for(line, day, number))
        self.wrote()
        self.house.ask_for(0, 1, 1)
        self.wrote(("ask", 0, 1, 1))
        self.house.ask_for(0, 1, 1)
        self.wrote()

    def test_put_out_again_as_it_was(self):
        self.house.ask_for(0, 1, 1)
        self.assertEqual(self.house.put_again(0, 1, 1), self.slips[0])
        self.wrote(("ask", 0, 1, 1), ("again", 0, 1, 1))
        self.assertEqual(self.house.asked_on(0), [])
        self.house.ask_for(0, 1, 1)
        self.assertEqual(self.house.asked_on(0), [(1, 1)])
        self.assertEqual(self.house.put_again(0, 1, 1), self.slips[0])

    def test_put_out_again_where_it_is_empty(self):
        self.house.ask_for(0, 1, 2)
        self.assertEqual(self.house.put_again(0, 1, 2), ("void", 0, 1, 2))
        self.wrote(("ask", 0, 1, 2), ("again", 0, 1, 2))

    def test_what_is_not_asked_for(self):
        self.house.ask_for(0, 1, 1)
        for handed in ((0, 1, 2), (0, 1, 4), (0, 1, 0), (0, 2, 1), (1, 1, 1)):
            self.refused(NoNumber, self.house.put_again, *handed)
        self.house.put_again(0, 1, 1)
        self.refused(NoNumber, self.house.put_again, 0, 1, 1)

    def test_rising_over_days(self):
        self.house.put_out(1, 0, 9, "b")
        for day, number in ((9, 1), (1, 3), (1, 1)):
            self.house.ask_for(0, day, number)
        self.assertEqual(self.house.asked_on(0), [(1, 1), (1, 3), (9, 1)])


def drawn_deed(chance, house):
    """Do a deed of chance at a house; tell what it told, or with which class it was refused."""
    line, day, number = chance.randrange(2), chance.choice((1, 2)), chance.randint(0, 5)
    asked = [(at, *one) for at in range(2) for one in house.asked_on(at)]
    ways = chance.choice(("a", "b", "d", "ab", "bd", "abd"))
    deeds = [
        (house.hand_in, (chance.randint(1, 4), chance.choice(("ac", "c", "abd", "b")), "x")),
        (house.slip_in, (("message", line, day, number + 1, 2, "f", 3, chance.choice(("ac", "abd", "c")), "f", ""),)),
        (house.slip_in, (("void", line, day, number + 1),)),
        (house.know, (line, day, number)), (house.ask_for, (line, day, number)), (house.ask_for, (line, day, 1)),
        (house.put_again, (line, day, number)), (house.put_again, chance.choice(asked or [(line, day, 0)])),
        (house.break_off, (line, day, number)), (house.break_off, (line, day, house.last_out(line, day))),
    ] + [(house.put_out, (chance.randint(-1, 9), line, day, ways))] * 5
    deed, handed = chance.choice(deeds)
    return deed.__name__, handed, answer(deed, *handed)


class EachWay(unittest.TestCase):
    """Point 20: each way of each tape is given, hung, or of one row "out" that isn't broken off."""

    def places(self, house, tape, way):
        stamp, rows = tape[0], house.book_rows()
        broken = [row[1:] for row in rows if row[0] == "broken"]
        outs = [row for row in rows if row[0] == "out" and row[1] == stamp and row[2:5] not in broken]
        hung = [one for one in house.hung_tapes() if one[0] == stamp and way in one[4]]
        return len(hung) + len([row for row in outs if way in row[5]]) + (way == house.letter)

    def test_behind_any_deeds(self):
        chance = random.Random(20)
        ways = 0
        for turn in range(25):
            house = House("c")
            for step in range(60):
                drawn_deed(chance, house)
                for tape in Plain("c", house.book_rows()).tapes():
                    for way in tape[4]:
                        self.assertEqual(self.places(house, tape, way), 1, (house.book_rows(), way))
                        ways += 1
        self.assertGreater(ways, 10000)


class ManyDeeds(unittest.TestCase):
    """Deeds of chance, beside a plain telling of the book; and a house made of the book goes on alike."""

    def alike(self, house, plain):
        self.assertEqual([house.book_rows(), house.hung_tapes(), house.given_here()],
                         [plain.rows, plain.hung(), plain.given()])
        for line in range(2):
            self.assertEqual(house.missing_on(line), plain.missing(line))
            self.assertEqual(house.asked_on(line), sorted(one[1:] for one in plain.asked() if one[0] == line))
            self.assertEqual([house.last_out(line, day) for day in (1, 2)], [plain.last(line, day) for day in (1, 2)])

    def test_told_as_its_book_tells(self):
        chance = random.Random(19)
        done = []
        for turn in range(40):
            house = House("c")
            for step in range(60):
                name, handed, told = drawn_deed(chance, house)
                self.alike(house, Plain("c", house.book_rows()))
                done.append((name, told if isinstance(told, (bool, type)) else "told"))
        for one in (("slip_in", True), ("slip_in", False), ("put_again", NoNumber), ("put_again", "told"),
                    ("break_off", NoNumber), ("break_off", "told"), ("put_out", NoHung), ("put_out", "told")):
            self.assertGreater(done.count(one), 10, one)

    def test_a_house_made_of_the_book_goes_on_as_it_does(self):
        for turn in range(40):
            house = House("c")
            for step in range(turn):
                drawn_deed(random.Random(1000 * turn + step), house)
            again = house_of("c", house.book_rows())
            self.alike(again, Plain("c", house.book_rows()))
            for step in range(40):
                told = [drawn_deed(random.Random(-1000 * turn - step), one) for one in (house, again)]
                self.assertEqual(told[0], told[1])
            self.alike(again, Plain("c", house.book_rows()))


class Refusals(unittest.TestCase):
    def test_each_is_a_refusal(self):
        for error in (NoHung, NoNumber):
            self.assertTrue(issubclass(error, RelayError))


if __name__ == "__main__":
    unittest.main()
