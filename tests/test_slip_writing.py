"""Point 12: how slips are written, and what is read as one."""

import re
import unittest

from tests.things import NO_TEXTS, OTHER_THINGS, SLIPS, one_part_otherwise, spelled_slip
from tornrelay.errors import NoSlip, NoText
from tornrelay.slips import is_slip, read_slip, slip_tape, slip_writing, word_count

WRITINGS = [
    "m 3 2 14 4 b 7 ac bd 6=to all: 3 tons|at once+",
    "v 0 9 9999+",
    "c 11 0,17,9999+",
    "q 5 1 2,3,40+",
]

SIGNS = "abcdefghijklmnopqrstuvwxyz |1234567890-/.,?()+:='"


def message(text, path="bd"):
    return ("message", 3, 2, 14, 4, "b", 7, "ac", path, text)


def spelled_reading(text):
    """Tell the slip that a text spells, None where it spells none, by a look at its signs from both ends."""
    found = re.fullmatch(r"m (\d+) (\d+) (\d+) (\d) (\w) (\d+) (\w+) (\w+) (\d+)=(.*)\+", text, re.ASCII)
    if found:
        line, day, number, rank, origin, serial, ways, path, words, text = found.groups()
        figures = [line, day, number, serial, words]
        slip = ("message", int(line), int(day), int(number), int(rank), origin, int(serial), ways, path, text)
        fits = int(words) == len(re.findall("[^ |]+", text))
    else:
        found = re.fullmatch(r"(?:(v)|(c)|(q)) (\d+) (?:(\d) )?(\d+(?:,\d+)*)\+", text, re.ASCII)
        if not found:
            return None
        void, check, ask, line, day, listed = found.groups()
        numbers = tuple(int(one) for one in listed.split(","))
        figures = [line, *listed.split(",")]
        if (day is None) != (check is not None):
            return None
        slip = ("check", int(line), numbers) if check else ("ask", int(line), int(day or 0), numbers)
        slip = ("void", int(line), int(day), *numbers) if void else slip
        fits = True
    plain = all(one == "0" or one[0] != "0" for one in figures)
    return slip if fits and plain and spelled_slip(slip) else None


class Words(unittest.TestCase):
    def test_none(self):
        for text in ("", " ", "|", "  ", " | |", "|" * 200):
            self.assertEqual(word_count(text), 0, text)

    def test_blanks_and_ends_of_rows_anywhere(self):
        for text in ("ab", " ab", "ab ", "|ab", "ab|", "  |ab| ", "||ab  "):
            self.assertEqual(word_count(text), 1, text)
        for text in ("a b", "a|b", "a  b", "a||b", "a | b", " a| |b |", "|a b|"):
            self.assertEqual(word_count(text), 2, text)

    def test_other_signs_make_words(self):
        self.assertEqual(word_count("1-2 / . ,? (a) +:='"), 6)
        for sign in SIGNS:
            self.assertEqual(word_count("a" + sign + "b"), 2 if sign in " |" else 1)
            self.assertEqual(word_count(sign), 0 if sign in " |" else 1)

    def test_as_many_as_may_be(self):
        self.assertEqual(word_count("a " * 100), 100)
        self.assertEqual(word_count("a|" * 200), 200)
        self.assertEqual(word_count("a" * 400), 1)


class Written(unittest.TestCase):
    def test_each_sort_sign_for_sign(self):
        self.assertEqual([slip_writing(slip) for slip in SLIPS], WRITINGS)

    def test_least_and_greatest(self):
        least, greatest = ("message", 0, 1, 1, 1, "a", 1, "b", "a", ""), "a " * 99 + "ab"
        self.assertEqual(slip_writing(least), "m 0 1 1 1 a 1 b a 0=+")
        slip = ("message", 11, 9, 9999, 4, "f", 9999, "abc", "fde", greatest)
        self.assertEqual(slip_writing(slip), "m 11 9 9999 4 f 9999 abc fde 100=" + greatest + "+")
        self.assertEqual(slip_writing(("void", 11, 1, 1)), "v 11 1 1+")
        self.assertEqual(slip_writing(("check", 0, (0,))), "c 0 0+")
        self.assertEqual(slip_writing(("check", 0, (9999,) * 9)), "c 0 " + ",".join(["9999"] * 9) + "+")
        self.assertEqual(slip_writing(("ask", 0, 9, (10,))), "q 0 9 10+")
        self.assertEqual(slip_writing(("ask", 0, 9, tuple(range(1, 11)))), "q 0 9 1,2,3,4,5,6,7,8,9,10+")

    def test_texts_stand_as_they_are(self):
        for text, words in ((" a", 1), ("a|", 1), ("|", 0), ("  ", 0), ("a=b", 1), ("+", 1), ("=+ +=", 2), ("0 01", 2)):
            self.assertEqual(slip_writing(message(text)), f"m 3 2 14 4 b 7 ac bd {words}={text}+")

    def test_what_is_no_slip_is_refused(self):
        wrong = OTHER_THINGS + WRITINGS + [list(slip) for slip in SLIPS] + [[], "", ("void",), ("m", 1, 1, 1)]
        for slip in SLIPS:
            wrong += [thing for thing in one_part_otherwise(slip) if not spelled_slip(thing)]
        for thing in wrong:
            for ask in (slip_writing, slip_tape):
                with self.assertRaises(NoSlip):
                    ask(thing)


class Read(unittest.TestCase):
    def reads(self, slip):
        read = read_slip(slip_writing(slip))
        self.assertEqual(read, slip)
        self.assertEqual([kinds(part) for part in read], [kinds(part) for part in slip])

    def refused(self, *things):
        for thing in things:
            with self.assertRaises(NoText, msg=repr(thing)):
                read_slip(thing)

    def test_each_sort_read_back(self):
        for slip, writing in zip(SLIPS, WRITINGS):
            self.assertEqual(read_slip(writing), slip)
            self.reads(slip)

    def test_tuples_within_tuples(self):
        self.assertIsInstance(read_slip("c 1 5+"), tuple)
        self.assertEqual(read_slip("c 1 5+"), ("check", 1, (5,)))
        self.assertEqual(read_slip("q 1 2 5+"), ("ask", 1, 2, (5,)))

    def test_texts_read_back(self):
        for text in ("", " ", "|", "+", "=", "a=+b", "++", "==", "+ =|", " a ", "a  b|", SIGNS, "v 1 1 1+", "9" * 200):
            self.reads(message(text))

    def test_every_slip_around_is_read_back(self):
        many = 0
        for slip in SLIPS:
            for thing in one_part_otherwise(slip):
                if is_slip(thing):
                    self.reads(thing)
                    many += 1
        self.assertGreater(many, 40)

    def test_one_sign_otherwise(self):
        read = 0
        for writing in WRITINGS + ["m 0 1 1 1 a 1 b a 0=+", "c 1 0+", "m 10 1 1 1 a 10 b a 1==+"]:
            texts = [writing[:place] + writing[place + 1:] for place in range(len(writing))]
            for sign in SIGNS + "*\"M_~":
                texts += [writing[:place] + sign + writing[place + 1:] for place in range(len(writing))]
                texts += [writing[:place] + sign + writing[place:] for place in range(len(writing) + 1)]
            for text in texts:
                slip = spelled_reading(text) if "'" not in text else None
                if slip is not None:
                    self.assertEqual(read_slip(text), slip)
                    read += 1
                elif "'" not in text or "=" not in text[:text.index("'")]:
                    self.refused(text)
        self.assertGreater(read, 1000)

    def test_a_0_ahead_of_figures(self):
        self.refused("m 03 2 14 4 b 7 ac bd 1=a+", "m 3 02 14 4 b 7 ac bd 1=a+", "m 3 2 014 4 b 7 ac bd 1=a+")
        self.refused("m 3 2 14 04 b 7 ac bd 1=a+", "m 3 2 14 4 b 07 ac bd 1=a+", "m 3 2 14 4 b 7 ac bd 01=a+")
        self.refused("m 3 2 14 4 b 7 ac bd 00=+", "v 00 9 1+", "v 0 09 1+", "v 0 9 01+", "v 0 9 0001+")
        self.refused("c 01 1+", "c 1 01+", "c 1 00+", "c 1 2,03+", "q 01 1 1+", "q 1 01 1+", "q 1 1 01+", "q 1 1 1,02+")

    def test_numbers_out_of_bounds(self):
        self.refused("v 12 1 1+", "v 1 0 1+", "v 1 10 1+", "v 1 1 0+", "v 1 1 10000+", "v 1 1 -1+", "v -1 1 1+")
        self.refused("c 12 1+", "c 1 10000+", "c 1 -1+", "c 1 1,2,3,4,5,6,7,8,9,0+", "q 1 1 0+", "q 1 1 10000+")
        self.refused("q 1 1 2,1+", "q 1 1 1,1+", "q 1 1 1,2,3,4,5,6,7,8,9,10,11+", "q 1 10 1+", "q 1 0 1+")
        self.refused("v 1 1 " + "1" * 1900 + "+", "c 1 " + "1," * 900 + "1+", "v 1 1 " + "9" * 5000 + "+")

    def test_figures_written_otherwise(self):
        self.refused("v 1 1 +1+", "v 1 1 1_0+", "v 1 1 1.0+", "v 1 1  1+", "v 1 1 0x1+", "v one 1 1+", "c 1 1, 2+")
        self.refused("c 1 +", "c 1 ,+", "c 1 1,+", "c 1 ,1+", "c 1 1,,2+", "c 1 (1,2)+", "q 1 1 +", "q 1 1 1,+")

    def test_wrong_number_of_words(self):
        for text, words in (("", 0), ("a", 1), ("a b", 2), (" | ", 0), ("a  b|c", 3)):
            for told in range(6):
                writing = f"m 3 2 14 4 b 7 ac bd {told}={text}+"
                if told == words:
                    self.assertEqual(read_slip(writing), message(text))
                else:
                    self.refused(writing)
        self.refused("m 3 2 14 4 b 7 ac bd =+", "m 3 2 14 4 b 7 ac bd -1=+", "m 3 2 14 4 b 7 ac bd a=a+")

    def test_two_words_exchanged(self):
        self.refused("m 3 2 14 4 7 b ac bd 1=a+", "m 3 2 14 4 b 7 bd ac 1=a+", "m 3 2 4 14 b 7 ac bd 1=a+")
        self.refused("3 m 2 14 4 b 7 ac bd 1=a+", "v 9 0 9999+", "0 v 9 1+", "c 0,17,9999 11+", "q 1 2,3,40 5+")
        self.assertEqual(read_slip("q 1 5 2,3,40+"), ("ask", 1, 5, (2, 3, 40)))

    def test_something_behind_the_last_sign(self):
        for writing in WRITINGS[1:]:
            self.refused(*[writing + more for more in (" ", "+", "a", "|", "1", writing)])
        self.refused(*[WRITINGS[0] + more for more in (" ", "a", "|", "1")])

    def test_something_ahead_or_no_end(self):
        for writing in WRITINGS:
            self.refused(*[more + writing for more in (" ", "+", "a", "|", "1")])
            self.refused(writing[:-1], writing[:-1] + " ", writing[:-1] + "=", writing[:-1] + "|")

    def test_longest_text_and_one_sign_more(self):
        self.assertEqual(read_slip("m 3 2 14 4 b 7 ac bd 1=" + "a" * 200 + "+"), message("a" * 200))
        self.refused("m 3 2 14 4 b 7 ac bd 1=" + "a" * 201 + "+", "m 3 2 14 4 b 7 ac bd 1=" + "a" * 1900 + "+")

    def test_slips_that_are_none(self):
        self.refused("m 3 2 14 4 b 7 ca bd 1=a+", "m 3 2 14 4 b 7 ac db 1=a+", "m 3 2 14 4 b 7 ab bd 1=a+")
        self.refused("m 3 2 14 4 b 7 ac bdb 1=a+", "m 3 2 14 5 b 7 ac bd 1=a+", "m 3 2 14 4 b 7  bd 1=a+")
        self.refused("m 3 2 14 4 b 7 ac bd 1=*+", "m 3 2 14 4 b 7 ac bd 1=A+", "m 3 2 14 4 bd 7 ac bd 1=a+")

    def test_words_in_a_wrong_sort(self):
        self.refused("v 1 1+", "v 1 1 1 1+", "v 1 1 1,2+", "c 1+", "c 1 1 1+", "q 1 1+", "q 1 1 1 1+", "m 1 1 1+")
        self.refused("v 1 1 1=+", "v 1 1 1=a+", "c 1 1=+", "q 1 1 1=1+", "m 3 2 14 4 b 7 ac bd 1+")
        self.refused("x 1 1 1+", "void 1 1 1+", "V 1 1 1+", "+", "", " ", "m", "m +", "v", "c", "q", "=", "=+")

    def test_things_that_are_no_texts(self):
        self.refused(*NO_TEXTS)
        self.refused(*SLIPS)
        self.refused(list("v 1 1 1+"), ["v 1 1 1+"], ("v 1 1 1+",))


def kinds(part):
    """Tell the kind of a part, and of those within it."""
    return (tuple, [kinds(one) for one in part]) if isinstance(part, tuple) else part.__class__


if __name__ == "__main__":
    unittest.main()
