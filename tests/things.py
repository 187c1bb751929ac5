"""What several tests need: things of every kind, and a plain second telling of what frames are."""

import re

# Any things that are neither texts nor lists.
OTHER_THINGS = [None, True, False, 0, 1, -1, 10 ** 60 - 1, (), (1,), ("a",), ((1, 2), [3])]

NO_TEXTS = OTHER_THINGS + [[], ["a"], [1], [["a"], "b"]]


def spelled_counts(body):
    """Reckon the seven rows ahead of a body by writing its rows out as bits."""
    bits = "".join(f"{row:05b}" for row in body)
    rows, gone = len(body), bits.count("0")
    return [
        rows // 30 + 1, 30 - rows // 30, rows % 30 + 1, 30 - rows % 30,
        gone // 900 + 1, gone % 900 // 30 + 1, gone % 30 + 1,
    ]


def spelled_frame(body):
    return spelled_counts(body) + body + [0]


def spelled_runs(tape):
    """Tell the runs of a tape by looking for stretches in it as bytes."""
    told = []
    for found in re.finditer(rb"([^\x00]+)\x00", bytes(tape), re.DOTALL):
        run = list(found.group(1))
        body = run[7:]
        fits = 1 <= len(body) <= 600 and max(body) <= 30 and run[:7] == spelled_counts(body)
        told.append((found.start(), body if fits else []))
    return told
