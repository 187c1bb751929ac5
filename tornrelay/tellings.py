"""What is told of a net."""

from tornrelay.errors import NoDay, NoMessage
from tornrelay.kinds import is_letter, is_whole_within
from tornrelay.net import channel_named, house_named, open_channels
from tornrelay.racks import rack_of
from tornrelay.roads import first_lines


def clock(net):
    """Tell the day and the hour."""
    return (net.day, net.hour)


def links_of(net):
    """Tell the open channels."""
    return open_channels(net)


def hung_at(net, house):
    """Tell the hung tapes of a house by stamps, as tuples (stamp, rank, origin, serial, ways, path, text)."""
    return house_named(net, house).hung_tapes()


def given_at(net, house):
    """Tell what was given at a house by stamps, as tuples (origin, serial, text)."""
    return house_named(net, house).given_here()


def book_at(net, house):
    """Tell the book of a house."""
    return house_named(net, house).book_rows()


def rack_at(net, line, house):
    """Tell the rack of a channel's sender for its line, as tuples (rank, stamp, again, ways)."""
    channel_named(net, line, house)
    return rack_of(net.houses[house], line, open_channels(net))


def missing_at(net, line, house):
    """Tell the tuples (day, number) of those that are missing at a channel's hearer."""
    receiver = channel_named(net, line, house)[2]
    return net.houses[receiver].missing_on(line)


def is_message_named(net, origin, serial, way):
    """Tell whether three things name a message by its origin, its serial and one of its ways."""
    if not is_letter(origin, net.letters):
        return False
    tapes = net.houses[origin].book.tapes
    if not is_whole_within(serial, 1, len(tapes)):
        return False
    rank, tape_origin, tape_serial, ways, path, text = tapes[serial - 1]
    # A stamp of the house may also be that of a tape that came in: this has another origin.
    return tape_origin == origin and is_letter(way, ways)


def follow(net, origin, serial, way):
    """Tell the trace of a message, the house that it came to, and its stamp there, 0 where it isn't had."""
    if not is_message_named(net, origin, serial, way):
        raise NoMessage("no message has this name")
    steps = []
    house, stamp = origin, serial
    while stamp:
        sending = net.houses[house].book.sending_for(stamp, way)
        if not sending:
            break
        steps.append((house, *sending))
        house = channel_named(net, sending[0], house)[2]
        stamp = net.houses[house].book.had.get(sending, 0)
    return steps, house, stamp


def trace(net, origin, serial, way):
    """Tell the sendings by which a message came along, as tuples (house, line, day, number)."""
    steps, house, stamp = follow(net, origin, serial, way)
    return steps


def lies(net, origin, serial, way):
    """Tell where a message lies, and what it waits for."""
    steps, house, stamp = follow(net, origin, serial, way)
    if stamp == 0:
        last = steps[-1]
        return ("sent", *last)
    if house == way:
        return ("given", house)
    rank, tape_origin, tape_serial, ways, path, text = net.houses[house].book.tapes[stamp - 1]
    firsts = first_lines(open_channels(net), house, path)
    return ("line", house, firsts[way]) if way in firsts else ("none", house)


def not_had(net, channel, day, last):
    """Tell the numbers of a day, up to the last one, that a channel's hearer hasn't had."""
    line, sender, receiver = channel
    had = net.houses[receiver].book.had
    return tuple(number for number in range(1, last + 1) if (line, day, number) not in had)


def closing(net, day):
    """Tell the closing of a day, as tuples (line, sender, last, missing)."""
    if not is_whole_within(day, 1, net.day):
        raise NoDay("this day didn't come yet")
    told = []
    for channel in net.channels:
        line, sender, receiver = channel
        last = net.houses[sender].last_out(line, day)
        told.append((line, sender, last, not_had(net, channel, day, last)))
    return told
