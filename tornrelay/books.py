"""The book of a house: which rows may stand in it, and what it tells."""

from tornrelay.errors import NoBook
from tornrelay.kinds import MOST_DAY, is_rank, is_sending, is_ways, is_whole, sort_of
from tornrelay.slips import is_message_text, is_slip


class Book:
    """The rows of what was done at a house, and what they tell, kept as they are written.

    A sending is known by the tuple (line, day, number). A tape is the tuple (rank, origin, serial, ways, path, text).
    """

    def __init__(self, letter):
        self.letter = letter
        self.rows = []
        # The tape with the stamp n stands at place n - 1.
        self.tapes = []
        # By stamps, the ways with which tapes hang; none of them empty.
        self.hung = {}
        # By sendings, the stamp and the ways of the row "out".
        self.sent = {}
        self.broken = {}
        self.asked = {}
        # By sendings, the stamp of the tape that came in, 0 where an empty one came.
        self.had = {}
        # By lines and days, the last number sent, and the greatest one had or known to be sent.
        self.lasts = {}
        self.greatest = {}

    def write(self, row):
        """Write a row that fits."""
        self.rows.append(row)
        match row:
            case ("hand", stamp, rank, ways, text):
                self.hang_new((rank, self.letter, stamp, ways, self.letter, text))
            case ("in", stamp, line, day, number, *tape):
                self.have((line, day, number), stamp)
                self.hang_new(tuple(tape))
            case ("void", *sending):
                self.have(tuple(sending), 0)
            case ("out", stamp, line, day, number, ways):
                self.take_down(stamp, (line, day, number), ways)
            case ("broken", *sending):
                self.hang_again(tuple(sending))
            case ("check", line, day, number):
                self.greatest[line, day] = number
            case ("ask", *sending):
                self.asked[tuple(sending)] = True
            case ("again", *sending):
                del self.asked[tuple(sending)]

    def hang_new(self, tape):
        """Hang a new tape with those of its ways that lead to other houses."""
        self.tapes.append(tape)
        ways = tape[3].replace(self.letter, "")
        if ways:
            self.hung[len(self.tapes)] = ways

    def have(self, sending, stamp):
        """Have the number of a sending that came in."""
        line, day, number = sending
        self.had[sending] = stamp
        self.greatest[line, day] = max(number, self.greatest_known(line, day))

    def take_down(self, stamp, sending, ways):
        """Take down the ways of a tape that are sent."""
        line, day, number = sending
        self.sent[sending] = (stamp, ways)
        self.lasts[line, day] = number
        left = "".join(letter for letter in self.hung[stamp] if letter not in ways)
        if left:
            self.hung[stamp] = left
        else:
            del self.hung[stamp]

    def hang_again(self, sending):
        """Hang the ways again whose sending was broken off."""
        self.broken[sending] = True
        stamp, ways = self.sent[sending]
        self.hung[stamp] = "".join(sorted(ways + self.hung_ways(stamp)))

    def next_stamp(self):
        """Tell the stamp of the next tape."""
        return len(self.tapes) + 1

    def hung_ways(self, stamp):
        """Tell the ways with which a tape hangs, an empty text where it doesn't."""
        return self.hung.get(stamp, "")

    def ways_hang(self, stamp, ways):
        """Tell whether a tape hangs with all of some ways."""
        hung = self.hung_ways(stamp)
        return all(way in hung for way in ways)

    def may_break(self, sending):
        """Tell whether a sending can be broken off: it began, and wasn't broken off yet."""
        return sending in self.sent and sending not in self.broken

    def may_ask(self, sending):
        """Tell whether a sending can be asked for: it began, and isn't asked for already."""
        return sending in self.sent and sending not in self.asked

    def last_number(self, line, day):
        """Tell the last number sent by a line on a day."""
        return self.lasts.get((line, day), 0)

    def greatest_known(self, line, day):
        """Tell the greatest number of a line and day that was had, or is known to be sent."""
        return self.greatest.get((line, day), 0)

    def missing_numbers(self, line):
        """Tell the tuples (day, number) of those that were sent by a line and are not had."""
        missing = []
        for day in range(1, MOST_DAY + 1):
            for number in range(1, self.greatest_known(line, day) + 1):
                if (line, day, number) not in self.had:
                    missing.append((day, number))
        return missing

    def asked_numbers(self, line):
        """Tell the tuples (day, number) of those of a line that are asked for."""
        return sorted([(day, number) for asked_line, day, number in self.asked if asked_line == line])

    def hung_tapes(self):
        """Tell the hung tapes by stamps, as tuples (stamp, rank, origin, serial, ways, path, text)."""
        told = []
        for stamp in sorted(self.hung):
            rank, origin, serial, ways, path, text = self.tapes[stamp - 1]
            told.append((stamp, rank, origin, serial, self.hung[stamp], path, text))
        return told

    def given_tapes(self):
        """Tell what was given at the house by stamps, as tuples (origin, serial, text)."""
        return [(tape[1], tape[2], tape[5]) for tape in self.tapes if self.letter in tape[3]]

    def sending_for(self, stamp, way):
        """Tell the sending of a tape for one of its ways, an empty tuple where the way isn't sent."""
        for sending in self.sent:
            sent_stamp, ways = self.sent[sending]
            if sent_stamp == stamp and way in ways and sending not in self.broken:
                return sending
        return ()

    def sent_tape(self, sending):
        """Tell the rank and the stamp of what was sent, and its ways, an empty text where it was broken off."""
        stamp, ways = self.sent[sending]
        return (self.tapes[stamp - 1][0], stamp, "" if sending in self.broken else ways)

    def sent_slip(self, sending):
        """Tell the slip of a sending: as it was put out, or the void one where it was broken off."""
        if sending in self.broken:
            return ("void", *sending)
        stamp, ways = self.sent[sending]
        rank, origin, serial, all_ways, path, text = self.tapes[stamp - 1]
        return ("message", *sending, rank, origin, serial, ways, path, text)


def is_next_stamp(book, thing):
    """Tell whether a thing is the stamp of the next tape."""
    return is_whole(thing) and thing == book.next_stamp()


def hand_fits(book, parts):
    """Tell whether a tuple may stand behind the word "hand" in the next row."""
    if len(parts) != 4:
        return False
    stamp, rank, ways, text = parts
    return is_next_stamp(book, stamp) and is_rank(rank) and is_ways(ways) and is_message_text(text)


def in_fits(book, parts):
    """Tell whether a tuple may stand behind the word "in" in the next row."""
    if len(parts) != 10:
        return False
    stamp, line, day, number, rank, origin, serial, ways, path, text = parts
    if not is_next_stamp(book, stamp) or not isinstance(path, str):
        return False
    ahead = path[:-1]
    if not path.endswith(book.letter) or book.letter in ahead:
        return False
    slip = ("message", line, day, number, rank, origin, serial, ways, ahead, text)
    return is_slip(slip) and (line, day, number) not in book.had


def void_fits(book, parts):
    """Tell whether a tuple may stand behind the word "void" in the next row."""
    return is_sending(parts) and parts not in book.had


def out_fits(book, parts):
    """Tell whether a tuple may stand behind the word "out" in the next row."""
    if len(parts) != 5:
        return False
    stamp, line, day, number, ways = parts
    if not is_whole(stamp) or not is_sending(parts[1:4]) or not is_ways(ways):
        return False
    return number == book.last_number(line, day) + 1 and book.ways_hang(stamp, ways)


def broken_fits(book, parts):
    """Tell whether a tuple may stand behind the word "broken" in the next row."""
    return is_sending(parts) and book.may_break(parts)


def check_fits(book, parts):
    """Tell whether a tuple may stand behind the word "check" in the next row."""
    return is_sending(parts) and parts[2] > book.greatest_known(parts[0], parts[1])


def ask_fits(book, parts):
    """Tell whether a tuple may stand behind the word "ask" in the next row."""
    return is_sending(parts) and book.may_ask(parts)


def again_fits(book, parts):
    """Tell whether a tuple may stand behind the word "again" in the next row."""
    return is_sending(parts) and parts in book.asked


ROWS = {
    "hand": hand_fits, "in": in_fits, "void": void_fits, "out": out_fits,
    "broken": broken_fits, "check": check_fits, "ask": ask_fits, "again": again_fits,
}


def row_fits(book, thing):
    """Tell whether a thing may stand as the next row of a book."""
    sort = sort_of(thing)
    if sort not in ROWS:
        return False
    fits = ROWS[sort]
    return fits(book, thing[1:])


def book_of(letter, thing):
    """Tell the book of a house whose rows a thing is."""
    if not isinstance(thing, list):
        raise NoBook(-1)
    book = Book(letter)
    for place, row in enumerate(thing):
        if not row_fits(book, row):
            raise NoBook(place)
        book.write(row)
    return book
