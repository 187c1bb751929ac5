"""Loads: streams of messages at one line, and how long they wait."""

from tornrelay.errors import NoRank
from tornrelay.kinds import is_whole, is_whole_within


def is_hanging(streams, length, thing):
    """Tell whether a thing is a minute of a load and the place of one of its streams."""
    if not isinstance(thing, tuple) or len(thing) != 2:
        return False
    minute, place = thing
    return is_whole_within(minute, 0, length - 1) and is_whole_within(place, 0, len(streams) - 1)


def is_row(streams, length, thing):
    """Tell whether a thing is a row of a load."""
    if not isinstance(thing, list) or not all(is_hanging(streams, length, part) for part in thing):
        return False
    ahead = 0
    frees = [0] * len(streams)
    for minute, place in thing:
        if minute < ahead or minute < frees[place]:
            return False
        ahead = minute
        frees[place] = minute + streams[place][2]
    return True


def minutes_of(stream, speed):
    """Tell how many minutes a message of a stream takes."""
    return -(-stream[1] // speed)


def rank_to_begin(row, queues, now):
    """Tell the rank whose next message is begun now, None where none is hung."""
    for rank in queues:
        if queues[rank] and row[queues[rank][-1]][0] <= now:
            return rank
    return None


def queues_of(streams, row):
    """Tell, by ranks, the greatest first, the places of a row that are to be begun, the first one last."""
    queues = {rank: [] for rank in sorted([stream[0] for stream in streams], reverse=True)}
    for at in reversed(range(len(row))):
        stream = streams[row[at][1]]
        queues[stream[0]].append(at)
    return queues


def waits(streams, speed, row):
    """Tell how long each message of a row waits."""
    queues = queues_of(streams, row)
    told = [0] * len(row)
    now = 0
    left = len(row)
    while left:
        rank = rank_to_begin(row, queues, now)
        if rank is None:
            now += 1
            continue
        at = queues[rank].pop()
        minute, place = row[at]
        told[at] = now - minute
        now += minutes_of(streams[place], speed)
        left -= 1
    return told


def longest_lesser(streams, rank):
    """Tell the place of the longest stream of a lesser rank, -1 where there is none."""
    longest = -1
    for place, (other, words, gap) in enumerate(streams):
        if other < rank and (longest < 0 or words > streams[longest][1]):
            longest = place
    return longest


def hung_minutes(streams, length, start, own, minute, place):
    """Tell the minutes at which a stream is hung in the row that keeps a message of the own stream longest."""
    rank, words, gap = streams[place]
    if place == own:
        return list(range(minute, start - 1, -gap))
    if rank > streams[own][0]:
        return list(range(start, length, gap))
    if rank == streams[own][0]:
        return list(range(start, minute + 1, gap))
    return []


def keeping_row(streams, length, start, own, minute):
    """Tell the row, from a minute on, that keeps the own stream's message of another minute longest."""
    row = []
    for place in range(len(streams)):
        row.extend([(hung, place) for hung in hung_minutes(streams, length, start, own, minute, place)])
    # Of one minute the own message stands last, so that all others of its rank go ahead.
    return sorted(row, key=lambda part: (part[0], part[1] == own))


def keeping_rows(streams, length, own):
    """Tell the rows that may keep a message of the own stream longest, each with this message's minute."""
    told = [(minute, keeping_row(streams, length, 0, own, minute)) for minute in range(length)]
    lesser = longest_lesser(streams, streams[own][0])
    if lesser >= 0:
        for minute in range(1, length):
            told.append((minute, [(0, lesser)] + keeping_row(streams, length, 1, own, minute)))
    return told


def kept_longest(streams, speed, length, rank):
    """Tell the longest wait of a rank, and a row in which a message of it waits so long."""
    owns = [place for place, stream in enumerate(streams) if is_whole(rank) and stream[0] == rank]
    if not owns:
        raise NoRank("no stream has this rank")
    most, most_row = -1, []
    for own in owns:
        for minute, row in keeping_rows(streams, length, own):
            wait = waits(streams, speed, row)[row.index((minute, own))]
            if wait > most:
                most, most_row = wait, row
    return most, most_row


def longest_wait(streams, speed, length, rank):
    """Tell the longest wait of a message of a rank."""
    wait, row = kept_longest(streams, speed, length, rank)
    return wait


def longest_row(streams, speed, length, rank):
    """Tell a row in which a message of a rank waits longest."""
    wait, row = kept_longest(streams, speed, length, rank)
    return row
