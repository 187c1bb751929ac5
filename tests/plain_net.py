"""A plain second telling of nets: books as lists of rows, told anew each time, in the words of the document."""

import re

from tests.plain import Plain, spelled_road
from tornrelay import errors
from tornrelay.slips import slip_tape, slips_on


def refuse(*due):
    """Refuse with the first of the refusals that are due."""
    for error, is_due in due:
        if is_due():
            raise error("")


class PlainNet:
    def __init__(self, houses, lines):
        self.houses, self.lines = "abcdef"[:houses], lines
        self.books = {house: [] for house in self.houses}
        self.channels = []
        for number, (one, other, ways, first, last) in enumerate(lines):
            self.channels += [(number, one, other)] + [(number, other, one)] * (ways - 1)
        self.channels.sort()
        self.going = {channel: [] for channel in self.channels}
        self.come = {channel: [] for channel in self.channels}
        self.first = {channel: None for channel in self.channels}
        self.up, self.mended = set(self.houses), set(range(len(lines)))
        self.hours, self.taken = 0, []

    def clock(self):
        return self.hours // 24 + 1, self.hours % 24

    def day(self):
        return self.clock()[0]

    def plain(self, house):
        return Plain(house, self.books[house])

    def whole(self, channel):
        return channel[0] in self.mended and {channel[1], channel[2]} <= self.up

    def links_of(self):
        told = []
        for channel in self.channels:
            first, last = self.lines[channel[0]][3:]
            told += [channel] if self.whole(channel) and self.hours % 24 in range(first, last) else []
        return told

    def named(self, line, house):
        """Tell the one channel so named in a list, an empty one where there is none."""
        told = [channel for channel in self.channels if repr(channel[:2]) == repr((line, house))]
        return told

    def channel(self, line, house):
        refuse((errors.NoChannel, lambda: not self.named(line, house)))
        return self.named(line, house)[0]

    def rack_at(self, line, house):
        self.channel(line, house)
        told = []
        for stamp, rank, origin, serial, ways, path, text in self.plain(house).hung():
            roads = {way: spelled_road(self.links_of(), house, way, path) for way in ways}
            mine = "".join(way for way in ways if roads[way] and roads[way][0][0] == line)
            told += [(rank, stamp, (), mine)] if mine else []
        ranks = {tape[0]: tape[1] for tape in self.plain(house).tapes()}
        for at, day, number in self.plain(house).asked():
            for row in self.plain(house).of("out"):
                if at == line and row[2:5] == (at, day, number):
                    empty = ("broken", at, day, number) in self.books[house]
                    told.append((ranks[row[1]], row[1], (day, number), "" if empty else row[5]))
        # Those asked for stand ahead of the hung one: no day is as great as 10.
        return sorted(told, key=lambda one: (-one[0], one[1], one[2] or (10, 0)))

    def missing_at(self, line, house):
        return self.plain(self.channel(line, house)[2]).missing(line)

    def last(self, line, house, day):
        return self.plain(house).last(line, day)

    def at_house(self, house, error, is_due):
        """Tell the refusals of a house, NoHouse ahead of another one."""
        return ((errors.NoHouse, lambda: house not in list(self.houses)), (error, is_due))

    def take_in(self, house, rank, ways, text):
        rising = "?".join(self.houses) + "?"
        writing = "[-a-z |0-9/.,?()+:=']{0,200}"
        refuse(
            *self.at_house(house, errors.HouseDown, lambda: house not in self.up),
            (errors.NoRank, lambda: repr(rank) not in list("1234")),
            (errors.NoWays, lambda: not isinstance(ways, str) or not ways or not re.fullmatch(rising, ways)),
            (errors.NoText, lambda: not isinstance(text, str) or not re.fullmatch(writing, text)),
            (errors.TooMany, lambda: self.taken.count(self.day()) == 60),
        )
        self.taken.append(self.day())
        stamp = len(self.plain(house).tapes()) + 1
        self.books[house].append(("hand", stamp, rank, ways, text))
        return stamp

    def send(self, channel, slip, first=None):
        self.going[channel], self.first[channel] = slip_tape(slip), first
        return slip

    def free(self, channel):
        """Tell the refusals of a channel on which nothing can begin."""
        return (
            (errors.Shut, lambda: channel not in self.links_of()),
            (errors.Busy, lambda: self.going[channel] != []),
        )

    def begin(self, line, house):
        channel = self.channel(line, house)
        refuse(*self.free(channel), (errors.Nothing, lambda: not self.rack_at(line, house)))
        rank, stamp, again, ways = self.rack_at(line, house)[0]
        if again:
            self.books[house].append(("again", line) + again)
            return self.send(channel, self.slip_of(house, (line,) + again))
        number = (line, self.day(), self.last(line, house, self.day()) + 1)
        self.books[house].append(("out", stamp) + number + (ways,))
        return self.send(channel, self.slip_of(house, number), number)

    def slip_of(self, house, number):
        if ("broken",) + number in self.books[house]:
            return ("void",) + number
        row, = [row for row in self.plain(house).of("out") if row[2:5] == number]
        tape, = [tape for tape in self.plain(house).tapes() if tape[0] == row[1]]
        return ("message",) + number + tape[1:4] + (row[5],) + tape[5:]

    def check(self, line, house):
        channel = self.channel(line, house)
        refuse(*self.free(channel))
        lasts = tuple(self.last(line, house, day + 1) for day in range(self.day()))
        return self.send(channel, ("check", line, lasts))

    def ask(self, line, house, of):
        channel = self.channel(line, house)
        refuse((errors.NoChannel, lambda: (of, channel[2], house) not in self.named(of, channel[2])))
        missing = self.plain(house).missing(of)
        refuse(*self.free(channel), (errors.Nothing, lambda: not missing))
        day = min(missing)[0]
        return self.send(channel, ("ask", of, day, tuple(number for on, number in missing if on == day)[:10]))

    def run(self, line, house, masks):
        channel = self.channel(line, house)
        refuse((errors.Shut, lambda: not self.whole(channel)))
        over = [row | mask for row, mask in zip(self.going[channel], masks)]
        self.come[channel] += over
        self.going[channel] = self.going[channel][len(over):]
        return len(over)

    def run_out(self, line, house):
        return self.run(line, house, [0] * 1000)

    def tear(self, line, house):
        channel = self.channel(line, house)
        refuse((errors.HouseDown, lambda: channel[2] not in self.up))
        come, self.come[channel] = self.come[channel], []
        if self.going[channel]:
            while come and come[-1] != 0:
                self.come[channel].insert(0, come.pop())
        elif come and come[-1] != 0:
            come.append(0)
        return [self.take_up(channel[2], line, slip) for slip in slips_on(come)]

    def take_up(self, house, line, slip):
        book, plain = self.books[house], self.plain(house)
        if slip == ():
            return ("spoilt",)
        if slip[0] == "check":
            for day, last in enumerate(slip[2], 1):
                book += [("check", line, day, last)] if last > plain.greatest(line, day) else []
            return ("check", slip[2])
        if slip[0] == "ask":
            for number in slip[3]:
                row = ("ask",) + slip[1:3] + (number,)
                book += [row] if row[1:] in plain.sent() and row[1:] not in plain.asked() else []
            return slip
        if slip[1:4] in plain.had():
            return ("double",) + slip[2:4]
        if slip[0] == "void":
            book.append(slip)
            return ("void",) + slip[2:4]
        book.append(("in", len(plain.tapes()) + 1) + slip[1:8] + (slip[8] + house, slip[9]))
        return ("in",) + slip[2:4]

    def next_hour(self):
        refuse((errors.TooLate, lambda: self.clock() == (9, 23)))
        self.hours += 1
        return self.clock()

    def break_all(self, is_broken):
        for channel in filter(is_broken, self.channels):
            if self.going[channel]:
                self.going[channel] = []
                self.come[channel] += [31, 0]
                self.books[channel[1]] += [("broken",) + self.first[channel]] if self.first[channel] else []

    def cut_line(self, line):
        refuse((errors.NoLine, lambda: repr(line) not in [repr(one) for one in range(len(self.lines))]))
        self.break_all(lambda channel: channel[0] == line)
        self.mended.discard(line)

    def mend_line(self, line):
        refuse((errors.NoLine, lambda: repr(line) not in [repr(one) for one in range(len(self.lines))]))
        self.mended.add(line)

    def go_down(self, house):
        refuse(*self.at_house(house, errors.HouseDown, lambda: house not in self.up))
        self.break_all(lambda channel: house in channel)
        self.up.remove(house)

    def come_up(self, house):
        refuse(*self.at_house(house, errors.HouseUp, lambda: house in self.up))
        self.up.add(house)

    def messages(self):
        """Tell the name of each message for each of its ways."""
        told = []
        for house in self.houses:
            for row in self.plain(house).of("hand"):
                told += [(house, row[1], way) for way in row[3]]
        return told

    def trace(self, origin, serial, way):
        return self.followed(origin, serial, way)[0]

    def lies(self, origin, serial, way):
        return self.followed(origin, serial, way)[1]

    def followed(self, origin, serial, way):
        refuse((errors.NoMessage, lambda: repr((origin, serial, way)) not in [repr(one) for one in self.messages()]))
        steps, house = [], origin
        while True:
            tape, = [one for one in self.plain(house).tapes() if one[2:4] == (origin, serial) and way in one[4]]
            outs = [row for row in self.plain(house).of("out") if row[1] == tape[0] and way in row[5]]
            outs = [row for row in outs if ("broken",) + row[2:5] not in self.books[house]]
            if house == way:
                return steps, ("given", house)
            if not outs:
                links = spelled_road(self.links_of(), house, way, tape[5])
                return steps, ("line", house, links[0][0]) if links else ("none", house)
            steps.append((house,) + outs[0][2:5])
            house = self.channel(outs[0][2], house)[2]
            if outs[0][2:5] not in self.plain(house).had():
                return steps, ("sent",) + steps[-1]

    def closing(self, day):
        refuse((errors.NoDay, lambda: repr(day) not in [repr(one + 1) for one in range(self.day())]))
        told = []
        for line, sender, receiver in self.channels:
            last, had = self.last(line, sender, day), self.plain(receiver).had()
            told.append((line, sender, last, tuple(n for n in range(1, last + 1) if (line, day, n) not in had)))
        return told

    def house_told(self, house, tell):
        refuse((errors.NoHouse, lambda: house not in list(self.houses)))
        return tell(self.plain(house))

    def hung_at(self, house):
        return self.house_told(house, Plain.hung)

    def given_at(self, house):
        return self.house_told(house, Plain.given)

    def book_at(self, house):
        return self.house_told(house, lambda plain: list(plain.rows))
