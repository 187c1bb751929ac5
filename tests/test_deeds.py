"""Point 22: each deed of a net, what it tells and what it changes."""

import unittest

from tests.drawn import all_told
from tornrelay.deeds import ask, begin, check, cut_line, go_down, mend_line, next_hour, run, run_out, take_in, tear
from tornrelay.errors import Busy, Nothing, TooLate, TooMany
from tornrelay.net import Net
from tornrelay.slips import slip_tape
from tornrelay.tellings import book_at, clock, given_at, hung_at, lies, links_of, missing_at, rack_at

# a and b by line 0, both ways; b and c by line 1, both ways, at the hours 2 to 4; a to b by line 2, one way.
LINES = [("a", "b", 2, 0, 24), ("b", "c", 2, 2, 5), ("a", "b", 1, 0, 24)]


class DeedCase(unittest.TestCase):
    def setUp(self):
        self.net = Net(3, LINES)

    def refused(self, error, deed, *handed):
        kept = all_told(self.net, 3, LINES)
        with self.assertRaises(error, msg=handed):
            deed(self.net, *handed)
        self.assertEqual(all_told(self.net, 3, LINES), kept)

    def hours(self, many):
        for hour in range(many):
            next_hour(self.net)

    def go(self, line, house):
        """Begin a sending, let it over, tear it; tell what the tearing tells."""
        begin(self.net, line, house)
        run_out(self.net, line, house)
        return tear(self.net, line, house)

    def spoil(self, line, house):
        """Begin a sending, hit it, tear it."""
        begin(self.net, line, house)
        run(self.net, line, house, [0, 31])
        run_out(self.net, line, house)
        self.assertEqual(tear(self.net, line, house), [("spoilt",)])


class TakenIn(DeedCase):
    def test_serials_and_rows(self):
        self.assertEqual(take_in(self.net, "a", 3, "bc", "come at 5"), 1)
        self.assertEqual(take_in(self.net, "a", 4, "a", ""), 2)
        self.assertEqual(take_in(self.net, "b", 1, "abc", "x"), 1)
        self.assertEqual(book_at(self.net, "a"), [("hand", 1, 3, "bc", "come at 5"), ("hand", 2, 4, "a", "")])
        self.assertEqual(book_at(self.net, "b"), [("hand", 1, 1, "abc", "x")])
        self.assertEqual(given_at(self.net, "a"), [("a", 2, "")])
        self.assertEqual(hung_at(self.net, "b"), [(1, 1, "b", 1, "ac", "b", "x")])

    def test_a_serial_is_the_stamp_behind_tapes_that_came_in(self):
        take_in(self.net, "a", 3, "b", "x")
        self.go(0, "a")
        self.assertEqual(take_in(self.net, "b", 3, "a", "y"), 2)

    def test_sixty_on_a_day_in_the_whole_net(self):
        for day in (1, 2):
            for count in range(60):
                take_in(self.net, "abc"[count % 3], 1 + count % 4, "abc"[count % 2], "x")
            for house in "abc":
                self.refused(TooMany, take_in, house, 1, "a", "x")
            self.hours(23)
            self.refused(TooMany, take_in, "a", 1, "a", "x")
            self.hours(1)
        self.assertEqual(take_in(self.net, "a", 1, "b", "x"), 41)

    def test_what_was_refused_is_not_counted(self):
        for count in range(59):
            take_in(self.net, "a", 1, "a", "x")
        for handed in (("z", 1, "a", "x"), ("a", 5, "a", "x"), ("a", 1, "", "x"), ("a", 1, "a", "*")):
            with self.assertRaises(ValueError):
                take_in(self.net, *handed)
        self.assertEqual(take_in(self.net, "a", 1, "a", "x"), 60)
        self.refused(TooMany, take_in, "a", 1, "a", "x")

    def test_houses_are_counted_that_come_up_again(self):
        for count in range(60):
            take_in(self.net, "a", 1, "a", "x")
        go_down(self.net, "a")
        self.refused(TooMany, take_in, "b", 1, "a", "x")


class Begun(DeedCase):
    def test_the_first_of_the_rack(self):
        take_in(self.net, "a", 1, "b", "x")
        take_in(self.net, "a", 3, "ab", "y")
        slip = ("message", 0, 1, 1, 3, "a", 2, "b", "a", "y")
        self.assertEqual(begin(self.net, 0, "a"), slip)
        self.assertEqual(book_at(self.net, "a")[2:], [("out", 2, 0, 1, 1, "b")])
        self.assertEqual(run_out(self.net, 0, "a"), len(slip_tape(slip)))
        self.assertEqual(begin(self.net, 0, "a"), ("message", 0, 1, 2, 1, "a", 1, "b", "a", "x"))

    def test_on_the_day_that_it_is(self):
        take_in(self.net, "a", 1, "b", "x")
        take_in(self.net, "a", 1, "b", "x")
        self.go(0, "a")
        self.hours(24)
        self.assertEqual(begin(self.net, 0, "a")[:4], ("message", 0, 2, 1))
        self.assertEqual(book_at(self.net, "a")[-1], ("out", 2, 0, 2, 1, "b"))

    def test_again(self):
        take_in(self.net, "a", 1, "b", "x")
        self.spoil(0, "a")
        take_in(self.net, "a", 1, "b", "y")
        self.hours(24)
        self.go(0, "a")
        check(self.net, 0, "a")
        run_out(self.net, 0, "a")
        self.assertEqual(tear(self.net, 0, "a"), [("check", (1, 1))])
        self.assertEqual(ask(self.net, 0, "b", 0), ("ask", 0, 1, (1,)))
        run_out(self.net, 0, "b")
        self.assertEqual(tear(self.net, 0, "b"), [("ask", 0, 1, (1,))])
        self.assertEqual(rack_at(self.net, 0, "a"), [(1, 1, (1, 1), "b")])
        self.assertEqual(begin(self.net, 0, "a"), ("message", 0, 1, 1, 1, "a", 1, "b", "a", "x"))
        self.assertEqual(book_at(self.net, "a")[-2:], [("ask", 0, 1, 1), ("again", 0, 1, 1)])
        run_out(self.net, 0, "a")
        self.assertEqual(tear(self.net, 0, "a"), [("in", 1, 1)])

    def test_ways_by_one_line_only(self):
        self.hours(2)
        take_in(self.net, "b", 1, "ac", "x")
        self.assertEqual(begin(self.net, 0, "b")[7], "a")
        self.assertEqual(begin(self.net, 1, "b")[7], "c")

    def test_nothing_where_the_rack_is_empty(self):
        self.refused(Nothing, begin, 0, "a")
        take_in(self.net, "a", 1, "b", "x")
        self.refused(Nothing, begin, 2, "a")
        self.refused(Nothing, begin, 0, "b")

    def test_busy_till_all_went_over(self):
        take_in(self.net, "a", 1, "b", "x")
        take_in(self.net, "a", 1, "b", "x")
        many = len(slip_tape(begin(self.net, 0, "a")))
        self.refused(Busy, begin, 0, "a")
        run(self.net, 0, "a", [0] * (many - 1))
        self.refused(Busy, begin, 0, "a")
        run(self.net, 0, "a", [0])
        begin(self.net, 0, "a")

    def test_each_channel_has_its_wire(self):
        take_in(self.net, "a", 1, "b", "x")
        take_in(self.net, "b", 1, "a", "x")
        begin(self.net, 0, "a")
        begin(self.net, 0, "b")
        check(self.net, 2, "a")


class Checked(DeedCase):
    def test_lasts_of_the_days_so_far(self):
        self.assertEqual(check(self.net, 0, "a"), ("check", 0, (0,)))
        run_out(self.net, 0, "a")
        for text in ("x", "y"):
            take_in(self.net, "a", 1, "b", text)
            self.go(0, "a")
        self.assertEqual(check(self.net, 0, "a"), ("check", 0, (2,)))
        run_out(self.net, 0, "a")
        self.hours(48)
        self.assertEqual(check(self.net, 0, "a"), ("check", 0, (2, 0, 0)))
        self.assertEqual(check(self.net, 2, "a"), ("check", 2, (0, 0, 0)))
        self.assertEqual(check(self.net, 0, "b"), ("check", 0, (0, 0, 0)))

    def test_a_number_broken_off_is_a_last_one(self):
        take_in(self.net, "a", 1, "b", "x")
        begin(self.net, 0, "a")
        cut_line(self.net, 0)
        mend_line(self.net, 0)
        self.assertEqual(check(self.net, 0, "a"), ("check", 0, (1,)))

    def test_nothing_is_written_by_its_sender(self):
        check(self.net, 0, "a")
        self.assertEqual(book_at(self.net, "a"), [])

    def test_it_goes_over_and_is_known(self):
        take_in(self.net, "a", 1, "b", "x")
        take_in(self.net, "a", 1, "b", "y")
        self.spoil(0, "a")
        self.spoil(0, "a")
        self.hours(24)
        slip = check(self.net, 0, "a")
        self.assertEqual(slip, ("check", 0, (2, 0)))
        self.assertEqual(run_out(self.net, 0, "a"), len(slip_tape(slip)))
        self.assertEqual(tear(self.net, 0, "a"), [("check", (2, 0))])
        self.assertEqual(book_at(self.net, "b"), [("check", 0, 1, 2)])
        self.assertEqual(missing_at(self.net, 0, "a"), [(1, 1), (1, 2)])
        check(self.net, 0, "a")
        run_out(self.net, 0, "a")
        self.assertEqual(tear(self.net, 0, "a"), [("check", (2, 0))])
        self.assertEqual(len(book_at(self.net, "b")), 1)


class Asked(DeedCase):
    def known(self, line, many):
        """Let many sendings of a line be spoilt, and the hearer know of it."""
        for count in range(many):
            take_in(self.net, "a", 1, "b", "x")
            if line == 2:
                cut_line(self.net, 0)
            self.spoil(line, "a")
            mend_line(self.net, 0)
        check(self.net, line, "a")
        run_out(self.net, line, "a")
        tear(self.net, line, "a")

    def test_the_first_ten(self):
        self.known(0, 12)
        self.assertEqual(ask(self.net, 0, "b", 0), ("ask", 0, 1, tuple(range(1, 11))))
        self.assertEqual(len(book_at(self.net, "b")), 1)

    def test_of_the_first_day(self):
        self.known(0, 2)
        self.hours(24)
        self.known(0, 1)
        self.assertEqual(missing_at(self.net, 0, "a"), [(1, 1), (1, 2), (2, 1)])
        self.assertEqual(ask(self.net, 0, "b", 0), ("ask", 0, 1, (1, 2)))

    def test_of_another_line(self):
        self.known(2, 3)
        self.assertEqual(missing_at(self.net, 2, "a"), [(1, 1), (1, 2), (1, 3)])
        self.refused(Nothing, ask, 0, "b", 0)
        self.assertEqual(ask(self.net, 0, "b", 2), ("ask", 2, 1, (1, 2, 3)))
        run_out(self.net, 0, "b")
        self.assertEqual(tear(self.net, 0, "b"), [("ask", 2, 1, (1, 2, 3))])
        self.assertEqual(book_at(self.net, "a")[-3:], [("ask", 2, 1, 1), ("ask", 2, 1, 2), ("ask", 2, 1, 3)])
        self.assertEqual([entry[2] for entry in rack_at(self.net, 2, "a")], [(1, 1), (1, 2), (1, 3)])
        self.assertEqual(rack_at(self.net, 0, "a"), [])

    def test_asked_twice_it_is_written_once(self):
        self.known(0, 2)
        for turn in range(2):
            ask(self.net, 0, "b", 0)
            run_out(self.net, 0, "b")
            self.assertEqual(tear(self.net, 0, "b"), [("ask", 0, 1, (1, 2))])
        self.assertEqual(book_at(self.net, "a")[-2:], [("ask", 0, 1, 1), ("ask", 0, 1, 2)])
        self.assertEqual(book_at(self.net, "a")[-3][0], "out")


class WentOver(DeedCase):
    def setUp(self):
        super().setUp()
        take_in(self.net, "a", 1, "b", "x")
        self.many = len(slip_tape(begin(self.net, 0, "a")))

    def test_one_row_for_each_mask(self):
        self.assertEqual(run(self.net, 0, "a", []), 0)
        self.assertEqual(run(self.net, 0, "a", [0, 0, 0]), 3)
        self.assertEqual(run(self.net, 0, "a", [0] * 500), self.many - 3)
        self.assertEqual(run(self.net, 0, "a", [0] * 500), 0)
        self.assertEqual(tear(self.net, 0, "a"), [("in", 1, 1)])

    def test_all_that_are_going(self):
        self.assertEqual(run(self.net, 0, "a", [0] * 7), 7)
        self.assertEqual(run_out(self.net, 0, "a"), self.many - 7)
        self.assertEqual(run_out(self.net, 0, "a"), 0)
        self.assertEqual(run_out(self.net, 0, "b"), 0)
        self.assertEqual(tear(self.net, 0, "a"), [("in", 1, 1)])

    def test_masks_without_holes_hit_nothing(self):
        masks = [0] * self.many
        run(self.net, 0, "a", masks)
        self.assertEqual(masks, [0] * self.many)
        self.assertEqual(tear(self.net, 0, "a"), [("in", 1, 1)])

    def test_a_hit_in_any_row_spoils_it(self):
        tape = slip_tape(("message", 0, 1, 1, 1, "a", 1, "b", "a", "x"))
        for place in range(self.many):
            net = Net(3, LINES)
            take_in(net, "a", 1, "b", "x")
            begin(net, 0, "a")
            hole = min(hole for hole in (1, 2, 4, 8, 16) if not tape[place] & hole)
            run(net, 0, "a", [0] * place + [hole])
            run_out(net, 0, "a")
            # A blank among the rows would part them in two runs; no hit makes one.
            self.assertEqual(tear(net, 0, "a"), [("spoilt",)], place)
            self.assertEqual(lies(net, "a", 1, "b"), ("sent", "a", 0, 1, 1))

    def test_what_comes_right_behind_a_blank_that_was_hit_is_not_read(self):
        take_in(self.net, "a", 1, "b", "y")
        run(self.net, 0, "a", [0] * (self.many - 1) + [1])
        self.assertEqual([run_out(self.net, 0, "a"), begin(self.net, 0, "a")[3]], [0, 2])
        run_out(self.net, 0, "a")
        take_in(self.net, "a", 1, "b", "z")
        self.assertEqual(self.go(0, "a"), [("spoilt",), ("in", 1, 3)])


class Torn(DeedCase):
    def test_nothing_came(self):
        self.assertEqual(tear(self.net, 0, "a"), [])

    def test_while_rows_are_going_the_others_stay(self):
        take_in(self.net, "a", 1, "b", "x")
        take_in(self.net, "a", 1, "b", "y")
        begin(self.net, 0, "a")
        run_out(self.net, 0, "a")
        begin(self.net, 0, "a")
        run(self.net, 0, "a", [0] * 9)
        self.assertEqual(tear(self.net, 0, "a"), [("in", 1, 1)])
        self.assertEqual(tear(self.net, 0, "a"), [])
        run_out(self.net, 0, "a")
        self.assertEqual(tear(self.net, 0, "a"), [("in", 1, 2)])

    def test_in_and_void(self):
        take_in(self.net, "a", 2, "b", "x")
        begin(self.net, 0, "a")
        cut_line(self.net, 0)
        mend_line(self.net, 0)
        self.assertEqual(tear(self.net, 0, "a"), [("spoilt",)])
        self.assertEqual(self.go(0, "a"), [("in", 1, 2)])
        self.assertEqual(missing_at(self.net, 0, "a"), [(1, 1)])
        ask(self.net, 0, "b", 0)
        run_out(self.net, 0, "b")
        tear(self.net, 0, "b")
        self.assertEqual(begin(self.net, 0, "a"), ("void", 0, 1, 1))
        run_out(self.net, 0, "a")
        self.assertEqual(tear(self.net, 0, "a"), [("void", 1, 1)])
        self.assertEqual(book_at(self.net, "b"), [
            ("in", 1, 0, 1, 2, 2, "a", 1, "b", "ab", "x"), ("void", 0, 1, 1),
        ])

    def test_double(self):
        take_in(self.net, "a", 2, "b", "x")
        take_in(self.net, "a", 2, "b", "y")
        self.spoil(0, "a")
        self.assertEqual(self.go(0, "a"), [("in", 1, 2)])
        for turn in range(2):
            ask(self.net, 0, "b", 0)
            run_out(self.net, 0, "b")
            if turn == 0:
                tear(self.net, 0, "b")
                begin(self.net, 0, "a")
        # The second asking is torn only now, when the number is on its way already.
        tear(self.net, 0, "b")
        run_out(self.net, 0, "a")
        self.assertEqual(tear(self.net, 0, "a"), [("in", 1, 1)])
        kept = book_at(self.net, "b")
        self.assertEqual(begin(self.net, 0, "a")[:4], ("message", 0, 1, 1))
        run_out(self.net, 0, "a")
        self.assertEqual(tear(self.net, 0, "a"), [("double", 1, 1)])
        self.assertEqual(book_at(self.net, "b"), kept)

    def test_several_of_all_sorts_in_order(self):
        take_in(self.net, "b", 2, "a", "x")
        self.spoil(0, "b")
        take_in(self.net, "b", 2, "a", "x")
        self.go(0, "b")
        take_in(self.net, "a", 2, "b", "x")
        for deed, *of in ((check,), (begin,), (ask, 0)):
            deed(self.net, 0, "a", *of)
            run_out(self.net, 0, "a")
        self.assertEqual(tear(self.net, 0, "a"), [("check", (0,)), ("in", 1, 1), ("ask", 0, 1, (1,))])
        self.assertEqual(book_at(self.net, "b")[-2:], [
            ("in", 3, 0, 1, 1, 2, "a", 2, "b", "ab", "x"), ("ask", 0, 1, 1),
        ])

    def test_over_a_line_that_is_cut_or_shut_or_whose_sender_is_down(self):
        self.hours(2)
        for text in ("x", "y", "z"):
            take_in(self.net, "b", 2, "c", text)
        begin(self.net, 1, "b")
        run_out(self.net, 1, "b")
        cut_line(self.net, 1)
        self.assertEqual(tear(self.net, 1, "b"), [("in", 1, 1)])
        mend_line(self.net, 1)
        begin(self.net, 1, "b")
        run_out(self.net, 1, "b")
        go_down(self.net, "b")
        self.assertEqual(tear(self.net, 1, "b"), [("in", 1, 2)])


class Hours(DeedCase):
    def test_each_hour_of_nine_days(self):
        for day in range(1, 10):
            for hour in range(24):
                self.assertEqual(clock(self.net), (day, hour))
                if (day, hour) != (9, 23):
                    following = (day, hour + 1) if hour < 23 else (day + 1, 0)
                    self.assertEqual(next_hour(self.net), following)
        self.refused(TooLate, next_hour)
        self.refused(TooLate, next_hour)
        self.assertEqual(clock(self.net), (9, 23))

    def test_lines_by_the_hour(self):
        for hour in range(48):
            is_there = (1, "b", "c") in links_of(self.net), (1, "c", "b") in links_of(self.net)
            self.assertEqual(is_there, (2 <= hour % 24 < 5,) * 2)
            next_hour(self.net)

    def test_a_line_of_no_hour(self):
        net = Net(2, [("a", "b", 2, 7, 7)])
        for hour in range(24):
            self.assertEqual(links_of(net), [])
            next_hour(net)

    def test_what_is_under_way_goes_on(self):
        self.hours(4)
        take_in(self.net, "b", 2, "c", "x")
        begin(self.net, 1, "b")
        run(self.net, 1, "b", [0] * 3)
        self.hours(1)
        self.assertNotIn((1, "b", "c"), links_of(self.net))
        run(self.net, 1, "b", [0] * 3)
        self.hours(24)
        run_out(self.net, 1, "b")
        self.assertEqual(tear(self.net, 1, "b"), [("in", 1, 1)])
        self.assertEqual(given_at(self.net, "c"), [("b", 1, "x")])

    def test_racks_by_the_hour(self):
        take_in(self.net, "a", 2, "c", "x")
        self.assertEqual(rack_at(self.net, 0, "a"), [])
        self.hours(2)
        self.assertEqual(rack_at(self.net, 0, "a"), [(2, 1, (), "c")])
        self.hours(3)
        self.assertEqual(rack_at(self.net, 0, "a"), [])


class CutAndMended(DeedCase):
    def test_links(self):
        self.assertIsNone(cut_line(self.net, 0))
        self.assertEqual(links_of(self.net), [(2, "a", "b")])
        self.assertIsNone(mend_line(self.net, 0))
        self.assertEqual(links_of(self.net), [(0, "a", "b"), (0, "b", "a"), (2, "a", "b")])

    def test_twice(self):
        take_in(self.net, "a", 1, "b", "x")
        begin(self.net, 0, "a")
        cut_line(self.net, 0)
        kept = all_told(self.net, 3, LINES)
        self.assertIsNone(cut_line(self.net, 0))
        self.assertEqual(all_told(self.net, 3, LINES), kept)
        mend_line(self.net, 0)
        kept = all_told(self.net, 3, LINES)
        self.assertIsNone(mend_line(self.net, 0))
        self.assertEqual(all_told(self.net, 3, LINES), kept)
        self.assertEqual(tear(self.net, 0, "a"), [("spoilt",)])

    def test_mended_what_was_never_cut(self):
        kept = all_told(self.net, 3, LINES)
        self.assertIsNone(mend_line(self.net, 1))
        self.assertEqual(all_told(self.net, 3, LINES), kept)

    def test_first_sendings_are_broken_off_both_ways(self):
        take_in(self.net, "a", 1, "b", "x")
        take_in(self.net, "b", 1, "a", "y")
        begin(self.net, 0, "a")
        begin(self.net, 0, "b")
        cut_line(self.net, 0)
        for house, other in ("ab", "ba"):
            self.assertEqual(book_at(self.net, house)[1:], [("out", 1, 0, 1, 1, other), ("broken", 0, 1, 1)])
        self.assertEqual([len(hung_at(self.net, house)) for house in "ab"], [1, 1])
        mend_line(self.net, 0)
        self.assertEqual(begin(self.net, 0, "a")[3], 2)

    def test_what_went_over_is_not_broken_off(self):
        take_in(self.net, "a", 1, "b", "x")
        begin(self.net, 0, "a")
        run_out(self.net, 0, "a")
        cut_line(self.net, 0)
        self.assertEqual(book_at(self.net, "a")[-1][0], "out")
        self.assertEqual(tear(self.net, 0, "a"), [("in", 1, 1)])

    def test_only_its_own_wires(self):
        take_in(self.net, "a", 1, "b", "x")
        begin(self.net, 0, "a")
        cut_line(self.net, 2)
        cut_line(self.net, 1)
        self.assertEqual(book_at(self.net, "a")[-1][0], "out")
        run_out(self.net, 0, "a")
        self.assertEqual(tear(self.net, 0, "a"), [("in", 1, 1)])

    def test_checks_and_askings_write_nothing(self):
        take_in(self.net, "a", 1, "b", "x")
        self.spoil(0, "a")
        check(self.net, 0, "a")
        cut_line(self.net, 0)
        mend_line(self.net, 0)
        self.assertEqual(book_at(self.net, "a")[-1], ("out", 1, 0, 1, 1, "b"))
        check(self.net, 0, "a")
        run_out(self.net, 0, "a")
        self.assertEqual(tear(self.net, 0, "a"), [("spoilt",), ("check", (1,))])
        ask(self.net, 0, "b", 0)
        cut_line(self.net, 0)
        self.assertEqual(book_at(self.net, "b"), [("check", 0, 1, 1)])

    def test_a_sending_again_is_not_broken_off_in_the_book(self):
        take_in(self.net, "a", 1, "b", "x")
        self.spoil(0, "a")
        check(self.net, 0, "a")
        run_out(self.net, 0, "a")
        tear(self.net, 0, "a")
        ask(self.net, 0, "b", 0)
        run_out(self.net, 0, "b")
        tear(self.net, 0, "b")
        begin(self.net, 0, "a")
        cut_line(self.net, 0)
        self.assertEqual(book_at(self.net, "a")[-1], ("again", 0, 1, 1))
        self.assertEqual(hung_at(self.net, "a"), [])
        self.assertEqual(lies(self.net, "a", 1, "b"), ("sent", "a", 0, 1, 1))


if __name__ == "__main__":
    unittest.main()
