"""Point 11: what a slip is, and what its parts are."""

import random
import unittest

from tests.things import OTHER_THINGS, SLIPS, one_part_otherwise, spelled_slip, with_part
from tornrelay.slips import is_slip

MESSAGE, VOID, CHECK, ASK = SLIPS

# What is never a number, a text or a tuple of numbers.
NO_NUMBERS = [True, False, None, "", "1", "a", [], [1], (), (1,)]
NO_TEXTS = [True, False, None, 0, 1, [], ["a"], (), ("a",)]
NO_NUMBER_TUPLES = [True, False, None, 0, 1, "", "1", "1,2", [], [1], [1, 2], ((1,),), ([1],)]


def message(**parts):
    """Tell a message's slip with some of its parts put otherwise."""
    whole = dict(line=3, day=2, number=14, rank=4, origin="b", serial=7, ways="ac", path="bd", text="go")
    whole.update(parts)
    return ("message", *whole.values())


class SlipCase(unittest.TestCase):
    def yes(self, *things):
        for thing in things:
            self.assertIs(is_slip(thing), True, thing)

    def no(self, *things):
        for thing in things:
            self.assertIs(is_slip(thing), False, thing)


class Sorts(SlipCase):
    def test_a_slip_of_each_sort(self):
        self.yes(*SLIPS)
        self.yes(("message", 0, 1, 1, 1, "a", 1, "b", "a", ""))
        self.yes(("message", 11, 9, 9999, 4, "f", 9999, "abc", "fed", "z" * 200))
        self.yes(("void", 11, 1, 1), ("check", 0, (0,)), ("ask", 0, 9, (9999,)))

    def test_other_words_are_no_sorts(self):
        words = ["", "Message", "m", "v", "c", "q", "in", "voids", "mess", None, True, 0, 1, [], ["void"], ("ask",)]
        for slip in SLIPS:
            self.no(*[(word,) + slip[1:] for word in words])

    def test_the_word_of_another_sort(self):
        for slip in SLIPS:
            for other in SLIPS:
                if other != slip:
                    self.no((other[0],) + slip[1:])

    def test_a_part_too_many_or_too_few(self):
        for slip in SLIPS:
            for place in range(len(slip)):
                self.no(slip[:place] + slip[place + 1:], slip[:place])
            for more in (None, 1, 0, "", "a", (1,), ()):
                self.no(slip + (more,), (more,) + slip)

    def test_lists_are_no_slips(self):
        for slip in SLIPS:
            self.no(list(slip), [slip], (slip,))

    def test_any_things(self):
        self.no(*OTHER_THINGS)
        self.no(("void",), ("message",), ("check",), ("ask",), (("void",),), (["void"],))
        self.no("", "message", "void", [], ["void", 1, 1, 1])
        self.no("v 1 1 1+", ("", 1, 1, 1), ([], 1, 1, 1))


class Numbers(SlipCase):
    def check_bounds(self, make, least, greatest):
        self.yes(make(least), make(greatest), make((least + greatest) // 2))
        self.no(make(least - 1), make(greatest + 1), make(-greatest), make(10 ** 59), make(-(10 ** 59)))
        self.no(*[make(thing) for thing in NO_NUMBERS])

    def test_line(self):
        for slip in SLIPS:
            self.check_bounds(lambda line, slip=slip: with_part(slip, 1, line), 0, 11)

    def test_day(self):
        for slip in (MESSAGE, VOID, ASK):
            self.check_bounds(lambda day, slip=slip: with_part(slip, 2, day), 1, 9)

    def test_number(self):
        for slip in (MESSAGE, VOID):
            self.check_bounds(lambda number, slip=slip: with_part(slip, 3, number), 1, 9999)
        self.check_bounds(lambda number: ("ask", 5, 1, (number,)), 1, 9999)

    def test_rank(self):
        self.check_bounds(lambda rank: message(rank=rank), 1, 4)

    def test_serial(self):
        self.check_bounds(lambda serial: message(serial=serial), 1, 9999)

    def test_each_last(self):
        self.check_bounds(lambda last: ("check", 11, (last,)), 0, 9999)
        self.check_bounds(lambda last: ("check", 11, (1, last, 3)), 0, 9999)
        self.check_bounds(lambda last: ("check", 11, (1, 2, last)), 0, 9999)


class Letters(SlipCase):
    def test_ways_of_one_to_six_letters(self):
        self.yes(message(ways="a"), message(ways="f"), message(ways="acef", path="bd"), message(ways="acdef", path="b"))
        # Six ways leave no letter for the path.
        self.no(message(ways="abcdef", path="b"), message(ways="abcdef", path=""))

    def test_ways_that_are_none(self):
        wrong = ["", "ca", "aa", "acc", "cac", "g", "ag", "A", "a c", "a,c", "1", " ", "-"]
        self.no(*[message(ways=ways) for ways in wrong])
        self.no(*[message(ways=ways) for ways in NO_TEXTS])

    def test_path_begins_with_the_origin(self):
        self.yes(*[message(path=path) for path in ("b", "bd", "bdef", "bfed")])
        self.no(message(path="db"), message(path="d"), message(path="def"), message(origin="d"))

    def test_a_path_of_five_letters(self):
        self.yes(message(path="bfdec", ways="a"), message(path="baced", ways="f"))

    def test_paths_that_are_none(self):
        self.no(*[message(path=path) for path in ("", "bb", "bdb", "bdd", "bg", "bdg", "Bd", "b d", "b,d", "b1", " b")])
        self.no(*[message(path=path) for path in NO_TEXTS])
        self.no(message(path=("b", "d")), message(path=["b", "d"]))

    def test_no_letter_of_the_ways_is_in_the_path(self):
        self.no(*[message(path=path) for path in ("ba", "bc", "bda", "bdc", "bcd", "bacd")])
        self.no(message(ways="b"), message(ways="ab"), message(ways="bc"), message(ways="d"), message(ways="acd"))

    def test_origin(self):
        for origin in "abcdef":
            self.yes(message(origin=origin, path=origin, ways="a" if origin != "a" else "f"))
        self.no(*[message(origin=origin) for origin in ("", "bd", "g", "a", "d", "B", " ", "1")])
        self.no(*[message(origin=origin) for origin in NO_TEXTS])
        self.no(message(origin="g", path="g"), message(origin="", path=""), message(origin="1", path="1"))
        self.no(message(origin="bd", path="bd"))


class Texts(SlipCase):
    def test_texts_of_0_to_200_signs(self):
        for sign in "a9 |=+":
            self.yes(*[message(text=sign * many) for many in (0, 1, 199, 200)])
            self.no(*[message(text=sign * many) for many in (201, 202, 400, 401, 2000)])

    def test_each_sign(self):
        said = "abcdefghijklmnopqrstuvwxyz |1234567890-/.,?()+:='"
        for place in range(32, 127):
            sign = chr(place)
            for text in (sign, "ab" + sign, sign + "1", " " + sign + "|"):
                (self.yes if sign in said else self.no)(message(text=text))
        self.yes(message(text=said))

    def test_what_is_no_text(self):
        self.no(*[message(text=text) for text in NO_TEXTS])


class Tuples(SlipCase):
    def test_one_to_nine_lasts(self):
        for many in range(12):
            (self.yes if 1 <= many <= 9 else self.no)(("check", 1, (5,) * many))
        self.yes(("check", 1, (0, 0, 9999, 4, 4, 3)))

    def test_lasts_that_are_no_tuple_of_numbers(self):
        self.no(*[("check", 1, lasts) for lasts in NO_NUMBER_TUPLES])
        self.no(("check", 1, 5), ("check", 1, (5, (6,))), ("check", 1, 5, 6))

    def test_one_to_ten_numbers_asked_for(self):
        for many in range(13):
            (self.yes if 1 <= many <= 10 else self.no)(("ask", 1, 1, tuple(range(3, 3 + many))))
        self.yes(("ask", 1, 1, (1, 9999)), ("ask", 1, 1, (9, 10, 100)))

    def test_numbers_asked_for_that_do_not_rise(self):
        wrong = [(2, 1), (1, 1), (1, 2, 2), (1, 3, 2), (9999, 1), (2, 2, 3), (1,) * 9]
        self.no(*[("ask", 1, 1, numbers) for numbers in wrong])

    def test_numbers_asked_for_that_are_no_tuple_of_numbers(self):
        self.no(*[("ask", 1, 1, numbers) for numbers in NO_NUMBER_TUPLES])
        for wrong in [0, 10000, -1] + NO_NUMBERS:
            self.no(("ask", 1, 1, (wrong, 5)), ("ask", 1, 1, (1, wrong)), ("ask", 1, 1, (1, wrong, 5)))


class OnePartOtherwise(SlipCase):
    def test_just_what_is_spelled_as_a_slip_is_one(self):
        for slip in SLIPS + [("message", 0, 1, 1, 1, "a", 1, "b", "a", ""), ("check", 1, (1,)), ("ask", 1, 1, (1,))]:
            self.assertTrue(spelled_slip(slip))
            for thing in one_part_otherwise(slip):
                self.assertIs(is_slip(thing), spelled_slip(thing), thing)

    def test_parts_exchanged(self):
        for slip in SLIPS:
            for one in range(len(slip)):
                for other in range(one):
                    thing = with_part(with_part(slip, one, slip[other]), other, slip[one])
                    self.assertIs(is_slip(thing), spelled_slip(thing), thing)

    def test_slips_of_chance(self):
        chance = random.Random(11)
        many = 0
        for turn in range(4000):
            path = "".join(chance.choice("abcdef") for letter in range(chance.choice((1, 1, 2, 3))))
            ways = "".join(chance.choice("abcdef") for letter in range(chance.choice((1, 1, 2, 3))))
            origin = path[0] if chance.random() < 0.9 else chance.choice("abcdef")
            slip = message(ways=ways, path=path, origin=origin, rank=chance.randint(1, 4))
            self.assertIs(is_slip(slip), spelled_slip(slip), slip)
            many += spelled_slip(slip)
        self.assertGreater(many, 500)


if __name__ == "__main__":
    unittest.main()
