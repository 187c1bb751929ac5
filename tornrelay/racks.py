"""Racks: what a house has to send by a line, in the order in which it goes."""

from tornrelay.roads import first_lines


def hung_for(house, line, links):
    """Tell the hung tapes that go by a line, as they stand in its rack."""
    lines_past = {}
    told = []
    for stamp, rank, origin, serial, ways, path, text in house.hung_tapes():
        # Many tapes have one path, and roads are slow to find.
        if path not in lines_past:
            lines_past[path] = first_lines(links, house.letter, path)
        firsts = lines_past[path]
        by_line = "".join(way for way in ways if firsts.get(way) == line)
        if by_line:
            told.append((rank, stamp, (), by_line))
    return told


def asked_for(house, line):
    """Tell the numbers of a line that are asked for, as they stand in its rack."""
    told = []
    for day, number in house.asked_on(line):
        rank, stamp, ways = house.book.sent_tape((line, day, number))
        told.append((rank, stamp, (day, number), ways))
    return told


def turn(entry):
    """Tell by what an entry of a rack goes ahead of others."""
    rank, stamp, again, ways = entry
    return (-rank, stamp, again == (), again)


def rack_of(house, line, links):
    """Tell the rack of a house for a line, as tuples (rank, stamp, again, ways)."""
    return sorted(hung_for(house, line, links) + asked_for(house, line), key=turn)
