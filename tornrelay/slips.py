"""Slips: what one house tells another by a tape, and how it is written."""

from tornrelay.code import is_writing, punch, read_tape
from tornrelay.errors import NoSlip, NoText
from tornrelay.frames import framed, runs
from tornrelay.kinds import is_line_number, is_number, is_path, is_rank, is_rising, is_sending, is_ways
from tornrelay.kinds import is_whole_within, sort_of

MOST_TEXT = 200
MOST_LAST = 9999
MOST_LASTS = 9
MOST_ASKED = 10
# No whole number of a slip has more figures; Python itself refuses to read a number of some thousands of them.
MOST_FIGURES = 4
PLAIN_FIGURES = "0123456789"


def is_message_text(thing):
    """Tell whether a thing is a message's text."""
    return is_writing(thing) and len(thing) <= MOST_TEXT


def is_message(parts):
    """Tell whether a tuple is what stands behind the word "message" in a slip."""
    if len(parts) != 9:
        return False
    rank, origin, serial, ways, path, text = parts[3:]
    if not is_sending(parts[:3]) or not is_rank(rank) or not is_number(serial) or not is_message_text(text):
        return False
    return is_ways(ways) and is_path(path) and path[0] == origin and not any(letter in path for letter in ways)


def is_void(parts):
    """Tell whether a tuple is what stands behind the word "void" in a slip."""
    return is_sending(parts)


def is_check(parts):
    """Tell whether a tuple is what stands behind the word "check" in a slip."""
    if len(parts) != 2:
        return False
    line, lasts = parts
    if not is_line_number(line) or not isinstance(lasts, tuple) or not 1 <= len(lasts) <= MOST_LASTS:
        return False
    return all(is_whole_within(last, 0, MOST_LAST) for last in lasts)


def is_ask(parts):
    """Tell whether a tuple is what stands behind the word "ask" in a slip."""
    if len(parts) != 3:
        return False
    line, day, numbers = parts
    if not isinstance(numbers, tuple) or not 1 <= len(numbers) <= MOST_ASKED:
        return False
    return all(is_sending((line, day, number)) for number in numbers) and is_rising(numbers)


SORTS = {"message": is_message, "void": is_void, "check": is_check, "ask": is_ask}


def is_slip(thing):
    """Tell whether a thing is a slip."""
    sort = sort_of(thing)
    if sort not in SORTS:
        return False
    fits = SORTS[sort]
    return fits(thing[1:])


def word_count(text):
    """Count the words of a text: the stretches of signs other than blank and |."""
    return len(text.replace("|", " ").split())


def commas_between(numbers):
    """Tell numbers as one text with commas between."""
    return ",".join(str(number) for number in numbers)


def written(slip):
    """Tell the writing of a slip without its last sign."""
    sort, line, *parts = slip
    if sort == "check":
        return f"c {line} {commas_between(parts[0])}"
    day, number, *rest = parts
    if sort == "ask":
        return f"q {line} {day} {commas_between(number)}"
    if sort == "void":
        return f"v {line} {day} {number}"
    rank, origin, serial, ways, path, text = rest
    return f"m {line} {day} {number} {rank} {origin} {serial} {ways} {path} {word_count(text)}={text}"


def slip_writing(thing):
    """Tell the writing of a slip."""
    if not is_slip(thing):
        raise NoSlip("no slip")
    return written(thing) + "+"


def whole_of(word):
    """Tell the whole number that a word of a few figures says, None for any other word."""
    if not 1 <= len(word) <= MOST_FIGURES or not all(sign in PLAIN_FIGURES for sign in word):
        return None
    return int(word)


def wholes_of(word):
    """Tell the whole numbers that stand in a word with commas between."""
    return tuple(whole_of(part) for part in word.split(","))


def parts_of(writing):
    """Tell the tuple whose parts stand in a text as in a slip's writing, be it a slip or not."""
    head, equals, text = writing[:-1].partition("=")
    match head.split(" "):
        case ["m", line, day, number, rank, origin, serial, ways, path, words]:
            sending = (whole_of(line), whole_of(day), whole_of(number))
            return ("message", *sending, whole_of(rank), origin, whole_of(serial), ways, path, text)
        case ["v", line, day, number]:
            return ("void", whole_of(line), whole_of(day), whole_of(number))
        case ["c", line, lasts]:
            return ("check", whole_of(line), wholes_of(lasts))
        case ["q", line, day, numbers]:
            return ("ask", whole_of(line), whole_of(day), wholes_of(numbers))
    return ()


def read_slip(thing):
    """Tell the slip whose writing a thing is."""
    if not isinstance(thing, str):
        raise NoText("no text")
    slip = parts_of(thing)
    # The parts are taken up loosely: only what they would be written as tells whether it is written so.
    if not is_slip(slip) or slip_writing(slip) != thing:
        raise NoText("no writing of a slip")
    return slip


def slip_tape(thing):
    """Tell the tape of a slip."""
    return framed(punch(slip_writing(thing)))


def slip_of_body(body):
    """Tell the slip for whose writing a body is punched, an empty tuple where it is for none."""
    writing = read_tape(body)
    try:
        slip = read_slip(writing)
    except NoText:
        return ()
    return slip if punch(writing) == body else ()


def slips_on(tape):
    """Tell the slip of each run of a tape, an empty tuple for each run that has none."""
    return [slip_of_body(body) for place, body in runs(tape)]
