"""The deeds that are done with a net."""

from tornrelay.errors import Busy, HouseDown, HouseUp, NoChannel, NoLine, NoRank, NoText, NoWays, Nothing, Shut
from tornrelay.errors import TooLate, TooMany
from tornrelay.houses import house_of
from tornrelay.kinds import MOST_DAY, is_rank, is_ways, is_whole_within, sort_of
from tornrelay.net import channel_named, house_named, is_open_channel, is_whole_channel, open_channels
from tornrelay.racks import rack_of
from tornrelay.roads import LAST_HOUR
from tornrelay.slips import MOST_ASKED, is_message_text, slip_tape, slips_on

MOST_TAKEN = 60


def take_in(net, house, rank, ways, text):
    """Take a message in at a house; tell its serial."""
    taker = house_named(net, house)
    if house in net.down:
        raise HouseDown("the house is down")
    if not is_rank(rank):
        raise NoRank("no rank of a message")
    if not is_ways(ways) or not all(way in net.letters for way in ways):
        raise NoWays("no houses of this net to go to")
    if not is_message_text(text):
        raise NoText("no text of a message")
    if net.taken_today == MOST_TAKEN:
        raise TooMany("no more messages are taken in on this day")
    net.taken_today += 1
    return taker.hand_in(rank, ways, text)


def hold_free(net, channel):
    """Refuse a channel on which nothing can begin to be sent now."""
    if not is_open_channel(net, channel):
        raise Shut("the channel isn't open")
    if net.wires[channel].rows_going():
        raise Busy("rows are going on the channel")


def send_slip(net, channel, slip, first):
    """Send a slip's tape on a channel, and note the sending where it is a tape's first one, else an empty tuple."""
    net.wires[channel].send_rows(slip_tape(slip))
    net.firsts[channel] = first


def begin(net, line, house):
    """Begin to send the first of the rack on a channel; tell the slip."""
    channel = channel_named(net, line, house)
    hold_free(net, channel)
    sender = net.houses[house]
    rack = rack_of(sender, line, open_channels(net))
    if not rack:
        raise Nothing("the rack is empty")
    rank, stamp, again, ways = rack[0]
    if again:
        day, number = again
        slip = sender.put_again(line, day, number)
        send_slip(net, channel, slip, ())
    else:
        slip = sender.put_out(stamp, line, net.day, ways)
        send_slip(net, channel, slip, slip[1:4])
    return slip


def check(net, line, house):
    """Begin to send a check on a channel; tell the slip."""
    channel = channel_named(net, line, house)
    hold_free(net, channel)
    sender = net.houses[house]
    slip = ("check", line, tuple(sender.last_out(line, day) for day in range(1, net.day + 1)))
    send_slip(net, channel, slip, ())
    return slip


def ask(net, line, house, of):
    """Begin to ask on a channel for what is missing of a line that leads the other way; tell the slip."""
    channel = channel_named(net, line, house)
    if channel_named(net, of, channel[2])[2] != house:
        raise NoChannel("the line doesn't lead the other way")
    hold_free(net, channel)
    missing = net.houses[house].missing_on(of)
    if not missing:
        raise Nothing("nothing is missing")
    first_day = missing[0][0]
    numbers = [number for day, number in missing if day == first_day]
    slip = ("ask", of, first_day, tuple(numbers[:MOST_ASKED]))
    send_slip(net, channel, slip, ())
    return slip


def whole_wire(net, line, house):
    """Tell the wire of a channel on which rows can go over."""
    channel = channel_named(net, line, house)
    if not is_whole_channel(net, channel):
        raise Shut("the channel isn't whole")
    return net.wires[channel]


def run(net, line, house, masks):
    """Let one row go over a channel for each mask, hit by it, as far as there are some; tell how many."""
    return whole_wire(net, line, house).run_rows(masks)


def run_out(net, line, house):
    """Let all rows that are going go over a channel, not hit; tell how many."""
    wire = whole_wire(net, line, house)
    return wire.run_rows([0] * len(wire.rows_going()))


def take_check(hearer, line, lasts):
    """Let a house take up the lasts of a check for a channel's line; tell of it."""
    for day, last in enumerate(lasts, start=1):
        hearer.know(line, day, last)
    return ("check", lasts)


def take_ask(hearer, line, day, numbers):
    """Let a house take up the numbers that it is asked for; tell of it."""
    for number in numbers:
        hearer.ask_for(line, day, number)
    return ("ask", line, day, numbers)


def take_number(hearer, slip):
    """Let a house take up a message, or an empty one; tell of it."""
    sort, line, day, number, *rest = slip
    if not hearer.slip_in(slip):
        return ("double", day, number)
    return ("void" if sort == "void" else "in", day, number)


def take_up(hearer, line, slip):
    """Let a house take up what was torn off a channel, a slip or an empty tuple; tell of it."""
    sort = sort_of(slip)
    if sort == "":
        return ("spoilt",)
    if sort == "check":
        return take_check(hearer, line, slip[2])
    if sort == "ask":
        return take_ask(hearer, slip[1], slip[2], slip[3])
    return take_number(hearer, slip)


def tear(net, line, house):
    """Let the hearer of a channel tear off what came, and take it up; tell of each slip."""
    channel = channel_named(net, line, house)
    receiver = channel[2]
    if receiver in net.down:
        raise HouseDown("the hearer is down")
    torn = net.wires[channel].tear_rows()
    return [take_up(net.houses[receiver], line, slip) for slip in slips_on(torn)]


def next_hour(net):
    """Let the next hour come; tell the day and the hour."""
    if net.hour < LAST_HOUR:
        net.hour += 1
        return (net.day, net.hour)
    if net.day == MOST_DAY:
        raise TooLate("no day comes behind this one")
    net.day += 1
    net.hour = 0
    net.taken_today = 0
    return (net.day, net.hour)


def break_channel(net, channel):
    """Break off what is going on a channel, and a tape's first sending at its sender, too."""
    first = net.firsts.get(channel, ())
    if net.wires[channel].break_rows() and first:
        line, day, number = first
        net.houses[channel[1]].break_off(line, day, number)


def hold_line(net, line):
    """Refuse what is no number of a line of the net."""
    if not is_whole_within(line, 0, len(net.lines) - 1):
        raise NoLine("no line of this net")


def cut_line(net, line):
    """Cut a line."""
    hold_line(net, line)
    for channel in net.channels:
        if channel[0] == line:
            break_channel(net, channel)
    net.cut[line] = True


def mend_line(net, line):
    """Mend a line."""
    hold_line(net, line)
    if line in net.cut:
        del net.cut[line]


def go_down(net, house):
    """Let a house go down."""
    house_named(net, house)
    if house in net.down:
        raise HouseDown("the house is down already")
    for channel in net.channels:
        if house in channel[1:]:
            break_channel(net, channel)
    net.down[house] = True


def come_up(net, house):
    """Let a house come up again, made anew of its book."""
    keeper = house_named(net, house)
    if house not in net.down:
        raise HouseUp("the house is up already")
    net.houses[house] = house_of(house, keeper.book_rows())
    del net.down[house]
