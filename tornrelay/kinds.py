"""What several modules ask about kinds of values."""

HOUSES = "abcdef"
MOST_LINE = 11
MOST_DAY = 9
MOST_RANK = 4
MOST_NUMBER = 9999


def is_whole(thing):
    """Tell whether a thing is a whole number: a truth is none, though Python counts it among the ints."""
    return isinstance(thing, int) and not isinstance(thing, bool)


def is_whole_within(thing, least, greatest):
    """Tell whether a thing is a whole number from least to greatest."""
    return is_whole(thing) and least <= thing <= greatest


def sort_of(thing):
    """Tell the text with which a tuple begins, an empty one for any other thing."""
    if isinstance(thing, tuple) and len(thing) > 0 and isinstance(thing[0], str):
        return thing[0]
    return ""


def is_rank(thing):
    """Tell whether a thing is a rank of a message."""
    return is_whole_within(thing, 1, MOST_RANK)


def is_line_number(thing):
    """Tell whether a thing is a number that a line may have."""
    return is_whole_within(thing, 0, MOST_LINE)


def is_day(thing):
    """Tell whether a thing is a day."""
    return is_whole_within(thing, 1, MOST_DAY)


def is_number(thing):
    """Tell whether a thing is a number of a sending, or a serial."""
    return is_whole_within(thing, 1, MOST_NUMBER)


def is_sending(parts):
    """Tell whether a tuple is (line, day, number), by which a sending is known."""
    if len(parts) != 3:
        return False
    line, day, number = parts
    return is_line_number(line) and is_day(day) and is_number(number)


def is_letter(thing, letters):
    """Tell whether a thing is one of some letters."""
    return isinstance(thing, str) and len(thing) == 1 and thing in letters


def is_rising(things):
    """Tell whether each of some numbers, or letters, is greater than the one ahead."""
    return list(things) == sorted(set(things))


def is_path(thing):
    """Tell whether a thing is a text of one or more unlike letters of houses."""
    if not isinstance(thing, str) or thing == "":
        return False
    return all(letter in HOUSES for letter in thing) and len(set(thing)) == len(thing)


def is_ways(thing):
    """Tell whether a thing is a text of one or more rising letters of houses."""
    return is_path(thing) and is_rising(thing)
