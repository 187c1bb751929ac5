"""A house: what is done there, each deed with its row in the book."""

from tornrelay.books import Book, book_of
from tornrelay.errors import NoHung, NoNumber
from tornrelay.kinds import is_ways


class House:
    """A house with its letter and its book."""

    def __init__(self, letter):
        self.letter = letter
        self.book = Book(letter)

    def hand_in(self, rank, ways, text):
        """Take a message that is handed in; tell its stamp."""
        stamp = self.book.next_stamp()
        self.book.write(("hand", stamp, rank, ways, text))
        return stamp

    def slip_in(self, slip):
        """Take a slip "message" or "void" that came; tell whether its number wasn't had yet."""
        sort, line, day, number, *rest = slip
        if (line, day, number) in self.book.had:
            return False
        if sort == "void":
            self.book.write(slip)
            return True
        rank, origin, serial, ways, path, text = rest
        stamp = self.book.next_stamp()
        self.book.write(("in", stamp, line, day, number, rank, origin, serial, ways, path + self.letter, text))
        return True

    def know(self, line, day, number):
        """Know that numbers up to this one were sent."""
        if number > self.book.greatest_known(line, day):
            self.book.write(("check", line, day, number))

    def ask_for(self, line, day, number):
        """Be asked for a number that was sent."""
        if self.book.may_ask((line, day, number)):
            self.book.write(("ask", line, day, number))

    def put_out(self, stamp, line, day, ways):
        """Begin to send a tape for some of its hung ways; tell the slip."""
        if not is_ways(ways) or not self.book.ways_hang(stamp, ways):
            raise NoHung("not all of these ways hang")
        number = self.book.last_number(line, day) + 1
        self.book.write(("out", stamp, line, day, number, ways))
        return self.book.sent_slip((line, day, number))

    def put_again(self, line, day, number):
        """Begin to send a number again that is asked for; tell the slip."""
        if (line, day, number) not in self.book.asked:
            raise NoNumber("the number isn't asked for")
        self.book.write(("again", line, day, number))
        return self.book.sent_slip((line, day, number))

    def break_off(self, line, day, number):
        """Break a number's sending off."""
        if not self.book.may_break((line, day, number)):
            raise NoNumber("the number isn't one that was sent and not broken off")
        self.book.write(("broken", line, day, number))

    def book_rows(self):
        """Tell the rows of the book."""
        return list(self.book.rows)

    def hung_tapes(self):
        """Tell the hung tapes by stamps, as tuples (stamp, rank, origin, serial, ways, path, text)."""
        return self.book.hung_tapes()

    def given_here(self):
        """Tell what was given here by stamps, as tuples (origin, serial, text)."""
        return self.book.given_tapes()

    def last_out(self, line, day):
        """Tell the last number sent by a line on a day."""
        return self.book.last_number(line, day)

    def missing_on(self, line):
        """Tell the tuples (day, number) of those that were sent by a line and are not had."""
        return self.book.missing_numbers(line)

    def asked_on(self, line):
        """Tell the tuples (day, number) of those of a line that are asked for."""
        return self.book.asked_numbers(line)


def house_of(letter, thing):
    """Tell the house whose book a thing is."""
    house = House(letter)
    house.book = book_of(letter, thing)
    return house
