"""A watch over a net: deed by deed it holds what the promise, point 3, says."""

from tests.drawn import ask, do, messages
from tests.plain import Plain
from tornrelay.net import Net
from tornrelay.roads import all_channels
from tornrelay.slips import slip_tape


class Watch:
    def __init__(self, case, houses, lines):
        self.case, self.houses, self.lines = case, houses, lines
        self.net = Net(houses, lines)
        self.channels = all_channels(lines)
        # By channels: the slip that is going with its tape and how far it went, and whether it was hit.
        self.going = {}
        # By channels: what came and isn't torn off, slips that must be read and None for those that must not be.
        self.came = {channel: [] for channel in self.channels}
        self.behind_blank = {channel: True for channel in self.channels}
        # By channels, days and numbers: the slips that were sent under them.
        self.numbers = {}

    def channel(self, line, house):
        return next(one for one in self.channels if one[:2] == (line, house))

    def plain(self, house):
        return Plain(house, ask(self.net, "book_at", house))

    def do(self, name, handed):
        """Do a deed, and hold what it may do."""
        rack = ask(self.net, "rack_at", *handed) if name == "begin" else None
        told = do(self.net, name, handed)
        if isinstance(told, type):
            return told
        if name in ("begin", "check", "ask"):
            self.began(self.channel(*handed[:2]), told, rack)
        if name in ("run", "run_out"):
            self.went_over(self.channel(*handed[:2]), told, (list(handed[2]) if name == "run" else []) + [0] * told)
        if name == "tear":
            self.torn(self.channel(*handed[:2]), told)
        if name in ("cut_line", "go_down"):
            for channel in self.channels:
                if channel[0] == handed[0] or handed[0] in channel[1:]:
                    self.broke_off(channel)
        return told

    def began(self, channel, slip, rack):
        start = self.behind_blank[channel]
        self.going[channel] = {"slip": slip, "tape": slip_tape(slip), "over": 0, "is_read": start}
        if slip[0] in ("message", "void"):
            self.numbers.setdefault((channel,) + slip[2:4], set()).add(slip)
        if slip[0] == "message":
            first = min(rack, key=lambda one: (-one[0], one[1]))
            self.case.assertEqual(slip[4], first[0])
            tape, = [one for one in self.plain(channel[1]).tapes() if one[0] == first[1]]
            self.case.assertEqual(slip[5:7] + slip[8:], tape[2:4] + tape[5:])

    def went_over(self, channel, many, masks):
        if many == 0:
            return
        going = self.going[channel]
        for mask in masks[:many]:
            row = going["tape"][going["over"]]
            going["over"] += 1
            going["is_read"] = going["is_read"] and row | mask == row
            self.behind_blank[channel] = row | mask == 0
        if going["over"] == len(going["tape"]):
            self.came[channel].append(going["slip"] if going["is_read"] else None)
            del self.going[channel]

    def broke_off(self, channel):
        if channel in self.going:
            del self.going[channel]
            self.came[channel].append(None)
            self.behind_blank[channel] = True

    def torn(self, channel, told):
        read = [slip for slip in self.came[channel] if slip]
        told = [one for one in told if one[0] != "spoilt"]
        self.case.assertEqual(len(told), len(read), (told, read))
        for one, slip in zip(told, read):
            if slip[0] == "message":
                self.case.assertEqual((one[0] in ("in", "double"), one[1:]), (True, slip[2:4]))
            elif slip[0] == "void":
                self.case.assertEqual((one[0] in ("void", "double"), one[1:]), (True, slip[2:4]))
            else:
                self.case.assertEqual(one, slip if slip[0] == "ask" else ("check", slip[2]))
        self.came[channel] = []
        if channel not in self.going:
            self.behind_blank[channel] = True

    def hold(self):
        """Hold what is promised at each time; tell how messages lie."""
        self.hold_numbers()
        self.hold_ways()
        return [self.hold_message(*message) for message in messages(self.net, self.houses)]

    def hold_numbers(self):
        for (channel, day, number), slips in self.numbers.items():
            line, sender, receiver = channel
            whole = [slip for slip in slips if slip[0] == "message"]
            self.case.assertLessEqual(len(whole), 1)
            outs = [row for row in self.plain(sender).of("out") if row[2:5] == (line, day, number)]
            self.case.assertEqual(len(outs), 1)
        for channel in self.channels:
            line, sender, receiver = channel
            for row in self.plain(receiver).of("in"):
                if row[2] == line and row[9][-2] == sender:
                    slip = ("message",) + row[2:9] + (row[9][:-1], row[10])
                    self.case.assertIn(slip, self.numbers[(channel,) + row[3:5]])

    def hold_ways(self):
        """On the road to one of its ways no message comes to a house twice."""
        for house in "abcdef"[:self.houses]:
            tapes = [(tape[2:4], way) for tape in self.plain(house).tapes() for way in tape[4]]
            self.case.assertEqual(len(set(tapes)), len(tapes))
            for tape in self.plain(house).tapes():
                self.case.assertEqual(len(set(tape[5])), len(tape[5]))

    def hold_message(self, origin, serial, way):
        """A message is given once, sign for sign, or lies at one told place."""
        row, = [row for row in self.plain(origin).of("hand") if row[1] == serial]
        place = ask(self.net, "lies", origin, serial, way)
        given = [one for one in ask(self.net, "given_at", way) if one[:2] == (origin, serial)]
        self.case.assertEqual(given, [(origin, serial, row[4])] if place == ("given", way) else [])
        hung = []
        for house in "abcdef"[:self.houses]:
            tapes = ask(self.net, "hung_at", house)
            hung += [house for tape in tapes if tape[2:4] == (origin, serial) and way in tape[4]]
        self.case.assertEqual(hung, [place[1]] if place[0] in ("line", "none") else [])
        steps = ask(self.net, "trace", origin, serial, way)
        houses = [step[0] for step in steps]
        self.case.assertEqual(len(set(houses)), len(houses))
        if place[0] == "sent":
            self.case.assertEqual(steps[-1], place[1:])
            self.case.assertNotIn(place[2:], self.plain(self.channel(place[2], place[1])[2]).had())
        return place[0]

    def hold_closings(self):
        """The closing books of two neighbours agree, or the numbers are told in which they don't."""
        for day in range(1, ask(self.net, "clock")[0] + 1):
            told = ask(self.net, "closing", day)
            self.case.assertEqual([one[:2] for one in told], [channel[:2] for channel in self.channels])
            for (line, sender, last, missing), channel in zip(told, self.channels):
                sent = [number for at, on, number in self.plain(sender).sent() if (at, on) == (line, day)]
                had = [number for at, on, number in self.had_of(channel) if on == day]
                self.case.assertEqual(sorted(sent), list(range(1, last + 1)))
                self.case.assertEqual(sorted(had + list(missing)), sorted(sent))

    def had_of(self, channel):
        """Tell what the hearer had by a channel: by its line both houses may hear, each the other one."""
        return [one for one in self.plain(channel[2]).had() if one[0] == channel[0]]
