"""What several tests need: things of every kind, and a plain second telling of what frames are."""

import re

# Any things that are neither texts nor lists.
OTHER_THINGS = [None, True, False, 0, 1, -1, 10 ** 60 - 1, (), (1,), ("a",), ((1, 2), [3])]

NO_TEXTS = OTHER_THINGS + [[], ["a"], [1], [["a"], "b"]]


def spelled_counts(body):
    """Reckon the seven rows ahead of a body by writing its rows out as bits."""
    bits = "".join(f"{row:05b}" for row in body)
    rows, gone = len(body), bits.count("0")
    return [
        rows // 30 + 1, 30 - rows // 30, rows % 30 + 1, 30 - rows % 30,
        gone // 900 + 1, gone % 900 // 30 + 1, gone % 30 + 1,
    ]


def spelled_frame(body):
    return spelled_counts(body) + body + [0]


def spelled_runs(tape):
    """Tell the runs of a tape by looking for stretches in it as bytes."""
    told = []
    for found in re.finditer(rb"([^\x00]+)\x00", bytes(tape), re.DOTALL):
        run = list(found.group(1))
        body = run[7:]
        fits = 1 <= len(body) <= 600 and max(body) <= 30 and run[:7] == spelled_counts(body)
        told.append((found.start(), body if fits else []))
    return told


# One slip of each sort.
SLIPS = [
    ("message", 3, 2, 14, 4, "b", 7, "ac", "bd", "to all: 3 tons|at once"),
    ("void", 0, 9, 9999),
    ("check", 11, (0, 17, 9999)),
    ("ask", 5, 1, (2, 3, 40)),
]

# A row of each sort, each of which fits behind those ahead, in a book of the house c.
ROWS = [
    ("hand", 1, 3, "abcd", "come at 5"),
    ("in", 2, 4, 1, 2, 4, "a", 9, "cef", "abc", "go|home"),
    ("void", 4, 1, 4),
    ("out", 1, 0, 1, 1, "ad"),
    ("out", 2, 0, 1, 2, "e"),
    ("broken", 0, 1, 1),
    ("check", 4, 1, 6),
    ("ask", 0, 1, 1),
    ("ask", 0, 1, 2),
    ("again", 0, 1, 2),
]

# What is put in the place of a part; most of them fit nowhere.
OTHER_PARTS = OTHER_THINGS + ["", "a", "b", "ab", "bd", "g", "1", [], [1], ["a"], 2, 9, 10, 11, 12, 23, 24, 25, (2, 3)]


def without(thing, place):
    """Tell a list or tuple with the part at a place left out."""
    return thing[:place] + thing[place + 1:]


def with_part(thing, place, part):
    """Tell a tuple with the part at a place put otherwise."""
    return thing[:place] + (part,) + thing[place + 1:]


def one_part_otherwise(thing, others=OTHER_PARTS):
    """Tell a tuple with one part of it put otherwise, left out or put in, in each way."""
    told = [without(thing, place) for place in range(len(thing))]
    for other in others:
        told += [with_part(thing, place, other) for place in range(len(thing))]
        told += [thing[:place] + (other,) + thing[place:] for place in range(len(thing) + 1)]
    return told


def spelled_slip(thing):
    """Tell whether a thing, without a ' in its text, is a slip, by how Python shows it."""
    line, day, number, last = "(?:[0-9]|1[01])", "[1-9]", "[1-9][0-9]{0,3}", "(?:0|[1-9][0-9]{0,3})"
    path, text = "'[a-f]{1,6}'", r"'[-a-z |0-9/.,?()+:=]{0,200}'"
    sorts = [
        rf"\('message', {line}, {day}, {number}, [1-4], '[a-f]', {number}, {path}, {path}, {text}\)",
        rf"\('void', {line}, {day}, {number}\)",
        rf"\('check', {line}, \((?:{last},|{last}(?:, {last}){{1,8}})\)\)",
        rf"\('ask', {line}, {day}, \((?:{number},|{number}(?:, {number}){{1,9}})\)\)",
    ]
    if not any(re.fullmatch(sort, repr(thing)) for sort in sorts):
        return False
    if thing[0] == "ask":
        return all(one < other for one, other in zip(thing[3], thing[3][1:]))
    if thing[0] == "message":
        origin, serial, ways, path = thing[5:9]
        unlike = len(set(ways + path)) == len(ways + path)
        return unlike and "".join(sorted(ways)) == ways and path.startswith(origin)
    return True
