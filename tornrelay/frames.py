"""Frames: bodies with their length and their holes counted ahead, so that a hit shows."""

from tornrelay.errors import NoBody
from tornrelay.kinds import is_whole_within

MOST_ROWS = 600
HOLES = 5
# Counts are put down in figures from 0 to 29, each raised by one: a row of a frame is neither 0 nor 31.
BASE = 30
COUNT_ROWS = 7


def is_body(thing):
    """Tell whether a thing is a body."""
    if not isinstance(thing, list) or not 1 <= len(thing) <= MOST_ROWS:
        return False
    return all(is_whole_within(row, 1, 30) for row in thing)


def holes_not_punched(body):
    """Count the holes that are not punched in a body."""
    return sum(1 - (row >> hole & 1) for row in body for hole in range(HOLES))


def count_rows(body):
    """Tell the rows ahead of a body in its frame: how many rows it has, and how many holes are not punched."""
    high, low = divmod(len(body), BASE)
    rest, ones = divmod(holes_not_punched(body), BASE)
    top, thirties = divmod(rest, BASE)
    return [high + 1, 30 - high, low + 1, 30 - low, top + 1, thirties + 1, ones + 1]


def framed(thing):
    """Tell the frame of a body."""
    if not is_body(thing):
        raise NoBody("no body of a frame")
    return count_rows(thing) + thing + [0]


def body_of(run):
    """Tell the body whose frame a run and its 0 are, an empty list where they are none."""
    body = run[COUNT_ROWS:]
    if is_body(body) and run[:COUNT_ROWS] == count_rows(body):
        return body
    return []


def runs(tape):
    """Tell the place and the body of each run of a tape."""
    told = []
    first = 0
    for place, row in enumerate(tape):
        if row != 0:
            continue
        if first < place:
            told.append((first, body_of(tape[first:place])))
        first = place + 1
    return told


def left_rows(tape):
    """Tell the rows of a tape behind its last 0."""
    first = 0
    for place, row in enumerate(tape):
        if row == 0:
            first = place + 1
    return tape[first:]


class Reader:
    """Reads a tape that comes in parts."""

    def __init__(self):
        self.waiting = []

    def take(self, rows):
        """Take the next part of the tape; tell the bodies of the runs whose 0 it brought."""
        left = left_rows(rows)
        if len(left) == len(rows):
            self.waiting.extend(rows)
            return []
        tape = self.waiting + rows
        self.waiting = left
        return [body for place, body in runs(tape)]
