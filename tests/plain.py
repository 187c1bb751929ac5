"""Plain second tellings of roads, books and nets: told anew each time, in the words of the document."""

from tests.things import with_part
from tornrelay.slips import is_slip


def every_road(links, house, passed):
    """Tell all roads from a house, one link after another."""
    told, waiting = [], [[]]
    while waiting:
        taken = waiting.pop()
        at = taken[-1][2] if taken else house
        visited = {house} | {link[2] for link in taken}
        for link in links:
            if link[1] == at and link[2] not in visited and link[2] not in passed:
                waiting.append(taken + [link])
                told.append(taken + [link])
    return told


def spelled_road(links, house, goal, passed):
    """Tell the least of the shortest roads by comparing all of them."""
    roads = [one for one in every_road(links, house, passed) if one[-1][2] == goal]
    return min(roads, key=lambda one: (len(one), one), default=[])


class Plain:
    """What a book tells, told anew from its rows each time, in the words of point 17."""

    def __init__(self, letter, rows):
        self.letter, self.rows = letter, rows

    def of(self, *sorts):
        return [row for row in self.rows if row[0] in sorts]

    def tapes(self):
        """Tell (stamp, rank, origin, serial, ways, path, text) of each tape."""
        told = []
        for row in self.of("hand", "in"):
            if row[0] == "hand":
                told.append((row[1], row[2], self.letter, row[1], row[3], self.letter, row[4]))
            else:
                told.append((row[1],) + row[5:])
        return told

    def hung(self):
        told = []
        broken = [row[1:] for row in self.of("broken")]
        for tape in self.tapes():
            gone = "".join(row[5] for row in self.of("out") if row[1] == tape[0] and row[2:5] not in broken)
            ways = "".join(way for way in tape[4] if way != self.letter and way not in gone)
            told += [with_part(tape, 4, ways)] if ways else []
        return told

    def given(self):
        return [(tape[2], tape[3], tape[6]) for tape in self.tapes() if self.letter in tape[4]]

    def sent(self):
        return [row[2:5] for row in self.of("out")]

    def last(self, line, day):
        return max((number for at, on, number in self.sent() if (at, on) == (line, day)), default=0)

    def had(self):
        return [row[2:5] for row in self.of("in")] + [row[1:] for row in self.of("void")]

    def greatest(self, line, day):
        known = self.had() + [row[1:] for row in self.of("check")]
        return max((number for at, on, number in known if (at, on) == (line, day)), default=0)

    def missing(self, line):
        all_numbers = [(day, number) for day in range(1, 10) for number in range(1, self.greatest(line, day) + 1)]
        return [(day, number) for day, number in all_numbers if (line, day, number) not in self.had()]

    def asked(self):
        told = set()
        for row in self.of("ask", "again"):
            (told.add if row[0] == "ask" else told.remove)(row[1:])
        return told

    def fits(self, row):
        """Tell whether a row of the right form fits, in the words of point 18."""
        if row[0] in ("hand", "in") and row[1] != len(self.tapes()) + 1:
            return False
        if row[0] == "in":
            slip = ("message", *row[2:9], row[9][:-1], row[10])
            ends = row[9][-1:] == self.letter and self.letter not in row[9][:-1]
            return is_slip(slip) and ends and row[2:5] not in self.had()
        if row[0] == "void":
            return row[1:] not in self.had()
        if row[0] == "out":
            hung = "".join(tape[4] for tape in self.hung() if tape[0] == row[1])
            return set(row[5]) <= set(hung) and row[4] == self.last(*row[2:4]) + 1
        if row[0] == "broken":
            return row[1:] in self.sent() and row[1:] not in [one[1:] for one in self.of("broken")]
        if row[0] == "check":
            return row[3] > self.greatest(*row[1:3])
        if row[0] == "ask":
            return row[1:] in self.sent() and row[1:] not in self.asked()
        return row[0] == "hand" or row[1:] in self.asked()
