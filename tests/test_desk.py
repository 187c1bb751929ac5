"""Point 33: the desk, row by row and text by text, and point 2 for it."""

import copy
import random
import re
import unittest

from tests.drawn import answer, ask, do, drawn_deeds, drawn_net, messages
from tests.things import OTHER_THINGS
from tornrelay import errors
from tornrelay.deeds import take_in
from tornrelay.desk import Desk
from tornrelay.errors import NoNet, NoSaying, RelayError
from tornrelay.net import Net
from tornrelay.roads import all_channels
from tornrelay.slips import slip_tape, slip_writing
from tornrelay.works import work

# a and b by line 0, both ways; b and c by line 1, both ways; a to c by line 2, from hour 6 on.
NET = "net 3 a,b,2,0,24 b,c,2,0,24 a,c,1,6,24"

# A row of each sort that can be said to this net.
SAYINGS = [
    "net 2 a,b,1,0,24", "hand a 1 b x", "begin 0 a", "check 0 a", "ask 0 b 0", "run 0 a 0,31", "out 0 a", "tear 0 a",
    "hour", "cut 0", "mend 0", "down a", "up a", "work", "clock", "links", "rack 0 a", "missing 0 a", "hung a",
    "given a", "text a 1 b", "lies a 1 b", "trace a 1 b", "closing 1",
]
# What is asked and changes nothing.
TELLINGS = ["clock", "links", "closing 1"] + [
    f"{name} {rest}" for name, rests in (
        ("rack", ("0 a", "0 b", "1 b", "1 c", "2 a")), ("missing", ("0 a", "0 b", "1 b", "1 c", "2 a")),
        ("hung", "abc"), ("given", "abc"),
    ) for rest in rests
]


class DeskCase(unittest.TestCase):
    def setUp(self):
        self.desk = Desk()
        self.said((NET, "ok"))

    def said(self, *rows):
        for row, told in rows:
            self.assertEqual(self.desk.say(row), told, row)

    def refused(self, error, row):
        kept = self.told()
        with self.assertRaises(RelayError, msg=row) as caught:
            self.desk.say(row)
        self.assertIs(caught.exception.__class__, error, row)
        self.assertEqual(self.told(), kept)

    def told(self):
        """Tell all that the desk tells of its net, refusals among it."""
        return [answer(self.desk.say, row) for row in TELLINGS]


class AtFirst(DeskCase):
    def test_tellings(self):
        self.said(
            ("clock", "1,0"), ("links", "0,a,b 0,b,a 1,b,c 1,c,b"), ("rack 0 a", "-"), ("missing 0 a", "-"),
            ("hung a", "-"), ("given a", "-"), ("closing 1", "0,a,0 0,b,0 1,b,0 1,c,0 2,a,0"), ("work", "0"),
            ("tear 0 a", "-"), ("out 0 a", "0"), ("run 0 a 0", "0"),
        )

    def test_nets(self):
        self.said(
            ("net 1", "ok"), ("links", "-"), ("closing 1", "-"), ("net 2", "ok"), ("links", "-"),
            ("net 6 f,a,2,23,24 a,f,1,0,1", "ok"), ("links", "1,a,f"), ("net 2" + " a,b,2,0,24" * 12, "ok"),
            ("rack 11 b", "-"),
        )

    def test_a_new_net_begins_anew(self):
        self.said(("hand a 1 b x", "1"), ("hour", "1,1"), ("cut 0", "ok"), ("down c", "ok"), (NET, "ok"))
        self.said(("clock", "1,0"), ("links", "0,a,b 0,b,a 1,b,c 1,c,b"), ("hung a", "-"), ("hand a 1 b x", "1"))


class Deeds(DeskCase):
    def test_a_message_from_house_to_house(self):
        many = len(slip_tape(("message", 0, 1, 1, 3, "a", 1, "bc", "a", "come at 5")))
        self.said(
            ("hand a 3 bc come at 5", "1"), ("rack 0 a", "3,1,bc"), ("hung a", "1,a,1,bc,a"), ("given b", "-"),
            ("lies a 1 b", "line,a,0"), ("trace a 1 b", "-"),
            ("begin 0 a", "m 0 1 1 3 a 1 bc a 3=come at 5"), ("lies a 1 c", "sent,a,0,1,1"), ("hung a", "-"),
            ("run 0 a 0,0,0", "3"), ("run 0 a 0", "1"), ("out 0 a", str(many - 4)), ("tear 0 a", "in,1,1"),
            ("given b", "a,1"), ("text a 1 b", '"come at 5"'), ("lies a 1 b", "given,b"), ("trace a 1 b", "a,0,1,1"),
            ("hung b", "1,a,1,c,ab"), ("lies a 1 c", "line,b,1"), ("trace a 1 c", "a,0,1,1"),
            ("begin 1 b", "m 1 1 1 3 a 1 c ab 3=come at 5"), ("work", "1"), ("trace a 1 c", "a,0,1,1 b,1,1,1"),
            ("closing 1", "0,a,1 0,b,0 1,b,1 1,c,0 2,a,0"), ("text a 1 c", '"come at 5"'),
        )

    def test_spoilt_checked_asked_for_and_sent_again(self):
        self.said(("hand a 3 b x", "1"), ("hand a 3 b y", "2"), ("hand a 4 b z", "3"))
        for begun in ("m 0 1 1 4 a 3 b a 1=z", "m 0 1 2 3 a 1 b a 1=x"):
            self.said(("begin 0 a", begun), ("run 0 a 0,31", "2"))
            self.desk.say("out 0 a")
        self.said(("tear 0 a", "spoilt spoilt"), ("closing 1", "0,a,2,1,2 0,b,0 1,b,0 1,c,0 2,a,0"))
        self.said(("check 0 a", "c 0 2"))
        self.desk.say("out 0 a")
        self.said(("tear 0 a", "check,2"), ("missing 0 a", "1,1 1,2"), ("ask 0 b 0", "q 0 1 1,2"))
        self.desk.say("out 0 b")
        self.said(("tear 0 b", "ask,0,1,1,2"), ("rack 0 a", "4,3,b,1,1 3,1,b,1,2 3,2,b"))
        self.said(("begin 0 a", "m 0 1 1 4 a 3 b a 1=z"))
        self.desk.say("out 0 a")
        self.said(("tear 0 a", "in,1,1"), ("missing 0 a", "1,2"), ("work", "2"), ("given b", "a,3 a,1 a,2"))

    def test_an_empty_one_and_an_empty_text(self):
        self.said(("hand b 2 a y", "1"), ("begin 0 b", "m 0 1 1 2 b 1 a b 1=y"), ("cut 0", "ok"), ("mend 0", "ok"))
        self.said(("tear 0 b", "spoilt"), ("check 0 b", "c 0 1"))
        self.desk.say("out 0 b")
        self.said(("tear 0 b", "check,1"), ("ask 0 a 0", "q 0 1 1"))
        self.desk.say("out 0 a")
        self.said(("tear 0 a", "ask,0,1,1"), ("rack 0 b", "2,1,-,1,1 2,1,a"), ("begin 0 b", "v 0 1 1"))
        self.desk.say("out 0 b")
        self.said(("tear 0 b", "void,1,1"), ("rack 0 b", "2,1,a"), ("work", "1"))

    def test_doubles_and_several_at_once(self):
        self.said(("hand a 1 b x", "1"), ("begin 0 a", "m 0 1 1 1 a 1 b a 1=x"), ("run 0 a 31", "1"))
        self.desk.say("out 0 a")
        self.said(("check 0 a", "c 0 1"))
        self.desk.say("out 0 a")
        self.said(("tear 0 a", "spoilt check,1"))
        for turn in range(2):
            self.said(("ask 0 b 0", "q 0 1 1"))
            self.desk.say("out 0 b")
            if turn == 0:
                self.said(("tear 0 b", "ask,0,1,1"), ("begin 0 a", "m 0 1 1 1 a 1 b a 1=x"))
        self.said(("tear 0 b", "ask,0,1,1"))
        self.desk.say("out 0 a")
        self.said(("begin 0 a", "m 0 1 1 1 a 1 b a 1=x"))
        self.desk.say("out 0 a")
        self.said(("tear 0 a", "in,1,1 double,1,1"))

    def test_hours_and_days(self):
        self.said(*[("hour", f"1,{hour}") for hour in range(1, 24)])
        self.said(("hour", "2,0"), ("clock", "2,0"), ("closing 2", "0,a,0 0,b,0 1,b,0 1,c,0 2,a,0"))
        self.said(("check 0 a", "c 0 0,0"))
        self.desk.say("out 0 a")
        self.said(("tear 0 a", "check,0,0"))

    def test_cut_and_mended_down_and_up(self):
        self.said(("cut 0", "ok"), ("cut 0", "ok"), ("links", "1,b,c 1,c,b"), ("hand a 1 b x", "1"))
        self.said(("lies a 1 b", "none,a"), ("mend 0", "ok"), ("mend 0", "ok"), ("lies a 1 b", "line,a,0"))
        self.said(("down b", "ok"), ("links", "-"), ("up b", "ok"), ("links", "0,a,b 0,b,a 1,b,c 1,c,b"))

    def test_all_that_can_be_done(self):
        self.said(("hand a 1 abc x", "1"), ("hand c 1 a y", "1"), ("work", "4"), ("work", "0"), ("given a", "a,1 c,1"))

    def test_texts(self):
        for serial, text in enumerate(("x", "a b", "to all: 3 tons|at once", "-", "ok 0 1 '", "|", "= + =+"), 1):
            self.said((f"hand a 1 ab {text}", str(serial)), (f"text a {serial} a", f'"{text}"'))
            self.refused(errors.NoMessage, f"text a {serial} b")
            words = len(re.findall("[^ |]+", text))
            self.said(("begin 0 a", f"m 0 1 {serial} 1 a {serial} b a {words}={text}"))
            self.desk.say("out 0 a")
            self.refused(errors.NoMessage, f"text a {serial} b")
            self.said(("tear 0 a", f"in,1,{serial}"), (f"text a {serial} b", f'"{text}"'))

    def test_an_empty_text_as_it_was_given(self):
        # No row of the desk hands an empty text in.
        take_in(self.desk.net, "a", 1, "ab", "")
        self.said(("text a 1 a", '""'), ("begin 0 a", "m 0 1 1 1 a 1 b a 0="))

    def test_each_mask_up_to_31(self):
        self.said(("check 0 a", "c 0 0"), ("run 0 a 0,1,2,3,4,5", "6"), ("run 0 a 6,9,10,19,29,30,31", "7"))


class NoSayings(DeskCase):
    def no_saying(self, *rows):
        for row in rows:
            self.refused(NoSaying, row)
            with self.assertRaises(NoSaying, msg=row):
                Desk().say(row)

    def test_what_is_no_text(self):
        self.no_saying(*OTHER_THINGS, [], ["clock"], [["clock"], "x"], ("clock",), ("net", 1))

    def test_what_is_no_first_word(self):
        self.no_saying("", " ", "x", "Clock", "clocks", "cloc", "0", "-", "NET 1", "take_in a 1 b x", "run_out 0 a")

    def test_blanks(self):
        for row in SAYINGS:
            self.no_saying(" " + row, row + " ")
            for place in range(len(row)):
                if row[place] == " ":
                    self.no_saying(row[:place] + " " + row[place:])

    def test_a_word_too_few(self):
        for row in SAYINGS:
            if row not in ("hour", "work", "clock", "links") and not row.startswith("net"):
                self.no_saying(row.rpartition(" ")[0], row.partition(" ")[0])
        self.no_saying("net", "hand a 1 b", "hand a 1", "hand")

    def test_a_word_too_many(self):
        for row in SAYINGS:
            if not row.startswith(("net", "hand")):
                self.no_saying(row + " 0", row + " a")
        self.no_saying("net 2 a,b,1,0,24 x")

    def test_numbers(self):
        for number in ("00", "01", "0123", "10000", "99999", "-1", "+1", "1.0", "a", "1a", "a1", "?", ",", "1,", "None"):
            self.no_saying(
                f"net {number}", f"net {number} a,b,1,0,24", f"hand a {number} b x", f"begin {number} a",
                f"check {number} a", f"ask {number} b 0", f"ask 0 b {number}", f"run {number} a 0", f"out {number} a",
                f"tear {number} a", f"cut {number}", f"mend {number}", f"rack {number} a", f"missing {number} a",
                f"text a {number} b", f"lies a {number} b", f"trace a {number} b", f"closing {number}",
            )

    def test_numbers_of_four_figures(self):
        for number in ("0", "10", "100", "1000", "9999"):
            self.refused(errors.NoChannel, f"begin {number} c")
        for row, error in (("net 9999", NoNet), ("hand a 9999 b x", errors.NoRank), ("cut 9999", errors.NoLine),
                           ("lies a 9999 b", errors.NoMessage), ("closing 9999", errors.NoDay)):
            self.refused(error, row)

    def test_masks(self):
        for masks in ("32", "0,32", "32,0", "9999", "", ",", "0,", ",0", "0,,0", "00", "0,01", "a", "0,a", "-1", "0;0"):
            self.no_saying(f"run 0 a {masks}")
        self.no_saying("run 0 a", "run 0 a 0 0", "run 9 z 32")

    def test_roads(self):
        for road in (
            "a,b,2,0", "a,b,2,0,24,0", "a,b", "a", ",", ",,,,", ",b,2,0,24", "a,,2,0,24", "a,b,,0,24", "a,b,2,,24",
            "a,b,2,0,", "a,b,x,0,24", "a,b,2,x,24", "a,b,2,0,x", "a,b,02,0,24", "a,b,2,00,24", "a,b,2,0,10000",
            "a,b,-2,0,24", "a,b,2,0,24,", ",a,b,2,0,24", "a;b;2;0;24",
        ):
            self.no_saying(f"net 2 {road}", f"net 2 a,b,2,0,24 {road}", f"net 9 {road}")

    def test_long_texts(self):
        self.no_saying("x" * 2000, "clock " + "x" * 1990, "1 " * 999 + "1", "run 0 a " + "1" * 1900)
        self.assertEqual(self.desk.say("run 0 a " + ",".join(["31"] * 600)), "0")


class NoNets(DeskCase):
    def test_ahead_of_the_first_net(self):
        for row in SAYINGS[1:] + ["begin 99 z", "hand z 9 z *", "closing 0", "down z", "run 99 z 31"]:
            with self.assertRaises(NoNet, msg=row):
                Desk().say(row)

    def test_still_behind_a_refused_net(self):
        desk = Desk()
        for row, error in (("net 0", NoNet), ("net 2 a,b", NoSaying), ("clock", NoNet)):
            with self.assertRaises(error, msg=row):
                desk.say(row)
        self.assertEqual([desk.say("net 1"), desk.say("clock")], ["ok", "1,0"])

    def test_a_refused_net_leaves_the_one_that_stood(self):
        self.said(("hand a 1 b x", "1"), ("hour", "1,1"), ("begin 0 a", "m 0 1 1 1 a 1 b a 1=x"))
        for row in ("net 0", "net 7", "net 10", "net 2 a,c,2,0,24", "net 3 a,a,2,0,24", "net 3 a,b,0,0,24",
                    "net 3 a,b,3,0,24", "net 3 a,b,2,24,24", "net 3 a,b,2,5,4", "net 3 a,b,2,0,25", "net 3 ab,b,2,0,24",
                    "net 3 a,A,2,0,24", "net 3" + " a,b,2,0,24" * 13):
            self.refused(NoNet, row)
        self.said(("clock", "1,1"), ("lies a 1 b", "sent,a,0,1,1"), ("work", "1"), ("given b", "a,1"))


class Refusals(DeskCase):
    def test_of_messages_handed_in(self):
        self.said(("down c", "ok"))
        for row, error in (
            ("hand d 9 z *", errors.NoHouse), ("hand ab 1 b x", errors.NoHouse), ("hand c 9 z *", errors.HouseDown),
            ("hand a 0 z *", errors.NoRank), ("hand a 5 b x", errors.NoRank), ("hand a 1 ba *", errors.NoWays),
            ("hand a 1 d x", errors.NoWays), ("hand a 1 bb x", errors.NoWays), ("hand a 1 - x", errors.NoWays),
            ("hand a 1 b *", errors.NoText), ("hand a 1 b X", errors.NoText), ('hand a 1 b "x"', errors.NoText),
            ("hand a 1 b " + "x" * 201, errors.NoText), ("hand a 1 b " + "x " * 100 + "x", errors.NoText),
        ):
            self.refused(error, row)
        self.said(("hand a 1 c " + "x" * 200, "1"), ("hand a 4 ac " + "x " * 99 + "xx", "2"))

    def test_too_many(self):
        for serial in range(1, 61):
            self.said(("hand a 1 a x", str(serial)))
        self.refused(errors.TooMany, "hand a 1 a x")
        self.refused(errors.TooMany, "hand b 1 a x")
        self.refused(errors.NoText, "hand b 1 a *")

    def test_of_channels(self):
        for rest in ("3 a", "0 c", "2 c", "1 a", "0 ab", "0 A", "0 d", "12 a", "0 0"):
            for row in (f"begin {rest}", f"check {rest}", f"ask {rest} 0", f"run {rest} 0", f"out {rest}",
                        f"tear {rest}", f"rack {rest}", f"missing {rest}"):
                self.refused(errors.NoChannel, row)
        for of in (1, 2, 3, 9999):
            self.refused(errors.NoChannel, f"ask 0 b {of}")

    def test_shut_busy_and_nothing(self):
        for row in ("begin 2 a", "check 2 a"):
            self.refused(errors.Shut, row)
        for row in ("begin 0 a", "ask 0 b 0", "ask 0 a 0"):
            self.refused(errors.Nothing, row)
        self.said(("check 0 a", "c 0 0"))
        for row in ("begin 0 a", "check 0 a", "ask 0 a 0"):
            self.refused(errors.Busy, row)
        self.said(("cut 0", "ok"))
        for row in ("begin 0 a", "check 0 a", "ask 0 a 0", "run 0 a 0", "out 0 a"):
            self.refused(errors.Shut, row)

    def test_of_houses_and_lines(self):
        for row in ("down d", "up d", "down ab", "up -", "hung d", "given ab", "hung -"):
            self.refused(errors.NoHouse, row)
        for row in ("cut 3", "mend 3", "cut 12"):
            self.refused(errors.NoLine, row)
        self.refused(errors.HouseUp, "up a")
        self.said(("down a", "ok"))
        for row in ("down a", "tear 0 b"):
            self.refused(errors.HouseDown, row)

    def test_too_late(self):
        for hour in range(9 * 24 - 1):
            self.desk.say("hour")
        self.said(("clock", "9,23"))
        self.refused(errors.TooLate, "hour")

    def test_of_messages_and_days(self):
        self.said(("hand a 1 ab x", "1"))
        for rest in ("a 1 c", "a 2 b", "a 0 b", "b 1 b", "d 1 b", "aa 1 b", "a 1 ab", "a 1 B", "- 1 -"):
            for name in ("text", "lies", "trace"):
                self.refused(errors.NoMessage, f"{name} {rest}")
        self.refused(errors.NoMessage, "text a 1 b")
        for row in ("closing 0", "closing 2", "closing 10"):
            self.refused(errors.NoDay, row)


def spelled(told):
    """Tell an answer of a net as the desk tells it, by how Python shows it."""
    if isinstance(told, list):
        return " ".join(spelled(one) for one in told) or "-"
    if isinstance(told, tuple):
        return ",".join(part.strip("'") or "-" for part in re.findall("'[^']*'|[0-9]+", repr(told)))
    return "ok" if told is None else str(told)


def spelled_deed(name, handed):
    """Tell the row by which a desk is told to do a deed."""
    word = {"take_in": "hand", "run_out": "out", "next_hour": "hour", "cut_line": "cut", "mend_line": "mend",
            "go_down": "down", "come_up": "up"}.get(name, name)
    return " ".join([word] + [",".join(map(str, one)) if isinstance(one, list) else str(one) for one in handed])


class DrawnDesks(unittest.TestCase):
    """A desk and a net side by side, with drawn deeds."""

    def alike(self, desk, net, row, told):
        self.assertEqual(answer(desk.say, row), told if isinstance(told, type) else spelled(told), row)

    def do(self, desk, net, name, handed):
        told = do(net, name, handed)
        if name in ("begin", "check", "ask") and isinstance(told, tuple):
            told = slip_writing(told)[:-1]
        self.alike(desk, net, spelled_deed(name, handed), told)
        return told

    def ask_all(self, desk, net, houses, lines):
        self.alike(desk, net, "clock", ask(net, "clock"))
        self.alike(desk, net, "links", ask(net, "links_of"))
        for line, house, receiver in all_channels(lines):
            rack = [(one[0], one[1], one[3]) + one[2] for one in ask(net, "rack_at", line, house)]
            self.alike(desk, net, f"rack {line} {house}", rack)
            self.alike(desk, net, f"missing {line} {house}", ask(net, "missing_at", line, house))
        for house in "abcdef"[:houses]:
            hung = [one[:1] + one[2:6] for one in ask(net, "hung_at", house)]
            self.alike(desk, net, f"hung {house}", hung)
            self.alike(desk, net, f"given {house}", [one[:2] for one in ask(net, "given_at", house)])
        for origin, serial, way in messages(net, houses):
            place = ask(net, "lies", origin, serial, way)
            self.alike(desk, net, f"lies {origin} {serial} {way}", place)
            self.alike(desk, net, f"trace {origin} {serial} {way}", ask(net, "trace", origin, serial, way))
            texts = [one[2] for one in ask(net, "given_at", way) if one[:2] == (origin, serial)]
            told = f'"{texts[0]}"' if texts else errors.NoMessage
            self.alike(desk, net, f"text {origin} {serial} {way}", told)
        for day in range(0, 11):
            self.alike(desk, net, f"closing {day}", ask(net, "closing", day))

    def test_as_the_net_tells(self):
        told = []
        for seed in range(25):
            chance = random.Random(seed)
            houses, lines = drawn_net(chance)
            desk, net = Desk(), Net(houses, lines)
            roads = [",".join(map(str, line)) for line in lines]
            self.assertEqual(desk.say(" ".join(["net", str(houses)] + roads)), "ok")
            for step in range(80):
                for name, handed in drawn_deeds(chance, houses, lines):
                    if name == "take_in":
                        handed = handed[:3] + (handed[3] or "x",)
                    told.append(self.do(desk, net, name, handed))
            self.ask_all(desk, net, houses, lines)
            self.alike(desk, net, "work", work(net))
            self.ask_all(desk, net, houses, lines)
        for error in (errors.Shut, errors.Busy, errors.Nothing, errors.HouseDown, errors.HouseUp):
            self.assertGreater(told.count(error), 10, error)


class OwnThings(DeskCase):
    def test_what_is_said_stays_as_it_is(self):
        for thing in ([], ["clock"], [["net"], 1], ("net", [1])):
            kept = copy.deepcopy(thing)
            with self.assertRaises(NoSaying):
                self.desk.say(thing)
            self.assertEqual(thing, kept)

    def test_what_is_refused_changes_nothing(self):
        self.said(("hand a 1 bc x", "1"), ("begin 0 a", "m 0 1 1 1 a 1 bc a 1=x"), ("run 0 a 0,0", "2"))
        for row in ("begin 0 a", "hand a 9 b x", "net 0", "run 0 a 32", "run 0 c 0", "cut 9", "up a", "tear 9 a", 5):
            with self.assertRaises(RelayError, msg=row):
                self.desk.say(row)
        self.said(("hand a 1 b y", "2"), ("work", "3"), ("text a 1 c", '"x"'), ("given b", "a,1 a,2"))

    def test_desks_have_nothing_in_common(self):
        other = Desk()
        other.say(NET)
        self.said(("hand a 1 b x", "1"), ("hour", "1,1"))
        self.assertEqual([other.say("clock"), other.say("hung a")], ["1,0", "-"])

    def test_tellings_change_nothing(self):
        self.said(("hand a 1 bc x", "1"), ("begin 0 a", "m 0 1 1 1 a 1 bc a 1=x"))
        self.assertEqual(self.told(), self.told())


if __name__ == "__main__":
    unittest.main()
