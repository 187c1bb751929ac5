"""Nets and deeds drawn by chance, and all that is told of a net."""

from tornrelay import deeds, tellings
from tornrelay.errors import RelayError
from tornrelay.net import Net
from tornrelay.roads import all_channels

TEXTS = ("", "go", "come at 5", "to all: 3 tons|at once", "x" * 60, "1a" * 40)
# Deeds that are drawn together, and how often: of one channel, and behind < of one that leads the other way.
DEEDS = {
    "take_in": 30, "begin run_out tear": 40, "begin run run_out tear": 20, "begin run": 6, "begin": 4,
    "begin run cut_line mend_line": 6, "begin run go_down come_up": 4, "check run_out tear": 14, "check run": 2,
    "<check <run_out <tear ask run_out tear": 20, "ask run": 2, "run": 4, "run_out": 5, "tear": 8, "next_hour": 2,
    "ask run_out tear <begin <run_out ask run_out tear <tear <begin <run_out <tear": 8,
    "cut_line": 1, "mend_line": 12, "go_down": 1, "come_up": 12,
}
WRONG = [None, True, "", "ab", "z", -1, 99, [], ["a"], (), ("a", 0), [[0], "b"]]


def drawn_line(chance, houses, hours):
    one, other = chance.sample("abcdef"[:houses], 2)
    first = chance.choice(hours)
    return (one, other, chance.choice((1, 2, 2, 2)), first, chance.randint(first, 24) if first else 24)


def drawn_net(chance, most_houses=4, most_lines=6, hours=(0, 0, 0, 0, 1)):
    """Draw a number of houses and lines between them."""
    houses = chance.randint(2, most_houses)
    return houses, [drawn_line(chance, houses, hours) for line in range(chance.randint(1, most_lines))]


def drawn_ways(chance, houses):
    letters = "abcdef"[:houses]
    return "".join(sorted(chance.sample(letters, chance.choice((1, 1, 1, 2, 2, 3)) if houses > 2 else 1)))


def drawn_masks(chance, hits):
    masks = [0] * chance.choice((1, 5, 20, 60, 300))
    while chance.random() < hits:
        masks[chance.randrange(min(len(masks), 60))] = chance.randrange(32)
    return masks


def drawn_deeds(chance, houses, lines, often=None, hits=0.3):
    """Draw some deeds that are done one behind another: their names, and what is handed to each beside a net."""
    often = often or DEEDS
    line, house, receiver = chance.choice(all_channels(lines))
    back = [number for number, sender, hearer in all_channels(lines) if (sender, hearer) == (receiver, house)]
    of = chance.choice(back or [0])
    any_house = chance.choice(house + receiver + "abcdef"[:houses])
    handed = {
        "take_in": (any_house, chance.randint(1, 4), drawn_ways(chance, houses), chance.choice(TEXTS)),
        "ask": (line, house, of), "run": (line, house, drawn_masks(chance, hits)),
        "next_hour": (), "cut_line": (line,), "mend_line": (line,), "go_down": (any_house,), "come_up": (any_house,),
    }
    told = []
    for name in chance.choices(list(often), list(often.values()))[0].split():
        if name.startswith("<"):
            told.append((name[1:], (of, receiver)))
        else:
            told.append((name, handed.get(name, (line, house))))
    return told


def drawn_wrong(chance, name, handed):
    """Put something else in the place of one thing that is handed in and may be any thing."""
    places = [place for place in range(len(handed)) if not isinstance(handed[place], list)]
    if not places:
        return handed
    place = chance.choice(places)
    return handed[:place] + (chance.choice(WRONG),) + handed[place + 1:]


def answer(ask, *handed):
    """Tell what a call tells, or the class with which it refuses."""
    try:
        return ask(*handed)
    except RelayError as refusal:
        return refusal.__class__


def do(net, name, handed):
    """Do a deed with a net, or with a plain one; tell what it tells, or the class with which it refuses."""
    if isinstance(net, Net):
        return answer(getattr(deeds, name), net, *handed)
    return answer(getattr(net, name), *handed)


def ask(net, name, *handed):
    """Ask something of a net, or of a plain one; tell the answer, or the class of the refusal."""
    if isinstance(net, Net):
        return answer(getattr(tellings, name), net, *handed)
    return answer(getattr(net, name), *handed)


def messages(net, houses):
    """Tell the name of each message of a net for each of its ways."""
    told = []
    for house in "abcdef"[:houses]:
        for row in ask(net, "book_at", house):
            told += [(house, row[1], way) for way in row[3]] if row[0] == "hand" else []
    return told


def all_told(net, houses, lines):
    """Tell all that is told of a net."""
    told = {"clock": ask(net, "clock"), "links": ask(net, "links_of")}
    for house in "abcdef"[:houses]:
        for name in ("hung_at", "given_at", "book_at"):
            told[name, house] = ask(net, name, house)
    for line, sender, receiver in all_channels(lines):
        for name in ("rack_at", "missing_at"):
            told[name, line, sender] = ask(net, name, line, sender)
    for message in messages(net, houses):
        told["trace", message] = ask(net, "trace", *message)
        told["lies", message] = ask(net, "lies", *message)
    for day in range(1, told["clock"][0] + 1):
        told["closing", day] = ask(net, "closing", day)
    return told
