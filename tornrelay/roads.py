"""Lines between houses, their channels, and the roads along them."""

from tornrelay.kinds import HOUSES, is_letter, is_whole_within

LAST_HOUR = 23
BOTH_WAYS = 2


def is_line(thing, houses):
    """Tell whether a thing is a line of a net of so many houses."""
    if not isinstance(thing, tuple) or len(thing) != 5:
        return False
    one, other, ways, first, last = thing
    letters = HOUSES[:houses]
    if not is_letter(one, letters) or not is_letter(other, letters) or one == other:
        return False
    if not is_whole_within(ways, 1, BOTH_WAYS) or not is_whole_within(first, 0, LAST_HOUR):
        return False
    return is_whole_within(last, first, LAST_HOUR + 1)


def all_channels(lines):
    """Tell the channels of a list of lines."""
    channels = []
    for number, (one, other, ways, first, last) in enumerate(lines):
        channels.append((number, one, other))
        if ways == BOTH_WAYS:
            channels.append((number, other, one))
    return sorted(channels)


def all_roads(links, house, passed):
    """Tell, for the house and each house that can be come to, the least of the shortest roads."""
    rising = sorted(links)
    roads = {house: []}
    furthest = [house]
    # The furthest houses stand as their roads rise: so the first road found to a house is the least one.
    while furthest:
        further = []
        for start in furthest:
            for number, sender, receiver in rising:
                if sender == start and receiver not in passed and receiver not in roads:
                    roads[receiver] = roads[start] + [(number, sender, receiver)]
                    further.append(receiver)
        furthest = further
    return roads


def road(links, house, goal, passed):
    """Tell the least of the shortest roads from a house to a goal, an empty list where there is none."""
    return all_roads(links, house, passed).get(goal, [])


def first_lines(links, house, passed):
    """Tell, for each other house that can be come to, the line with which the least of the shortest roads begins."""
    roads = all_roads(links, house, passed)
    return {goal: roads[goal][0][0] for goal in roads if roads[goal]}


def reached(links, house, passed):
    """Tell the letters of the house and of all houses that can be come to."""
    return "".join(sorted(all_roads(links, house, passed)))
