"""A net of houses: its lines and wires, its day and hour, and what of it is down, cut or shut."""

from tornrelay.errors import NoChannel, NoHouse, NoNet
from tornrelay.houses import House
from tornrelay.kinds import HOUSES, is_letter, is_whole, is_whole_within
from tornrelay.roads import all_channels, is_line
from tornrelay.wires import Wire

MOST_LINES = 12


def is_net(houses, lines):
    """Tell whether things are a number of houses and a list of lines between them."""
    if not is_whole_within(houses, 1, len(HOUSES)) or not isinstance(lines, list) or len(lines) > MOST_LINES:
        return False
    return all(is_line(line, houses) for line in lines)


class Net:
    """Houses and the lines between them. A channel is the tuple (line, sender, receiver)."""

    def __init__(self, houses, lines):
        if not is_net(houses, lines):
            raise NoNet("no net")
        self.letters = HOUSES[:houses]
        self.lines = list(lines)
        self.channels = all_channels(lines)
        self.houses = {letter: House(letter) for letter in self.letters}
        self.wires = {channel: Wire() for channel in self.channels}
        # By channels, the sending that was begun last where it was a tape's first one.
        self.firsts = {}
        self.down = {}
        self.cut = {}
        self.day = 1
        self.hour = 0
        self.taken_today = 0


def house_named(net, thing):
    """Tell the house that a thing names."""
    if not is_letter(thing, net.letters):
        raise NoHouse("no house of this net")
    return net.houses[thing]


def channel_named(net, line, house):
    """Tell the channel that two things name, its line and its sender."""
    if is_whole(line) and is_letter(house, net.letters):
        for channel in net.channels:
            if channel[0] == line and channel[1] == house:
                return channel
    raise NoChannel("no channel of this net")


def is_whole_channel(net, channel):
    """Tell whether a channel's line isn't cut and both its houses are up."""
    line, sender, receiver = channel
    return line not in net.cut and sender not in net.down and receiver not in net.down


def is_open_channel(net, channel):
    """Tell whether a channel is whole at an hour of its line."""
    one, other, ways, first, last = net.lines[channel[0]]
    return is_whole_channel(net, channel) and first <= net.hour < last


def open_channels(net):
    """Tell the links of a net."""
    return [channel for channel in net.channels if is_open_channel(net, channel)]
