"""What several modules ask about kinds of values."""


def is_whole(thing):
    """Tell whether a thing is a whole number: a truth is none, though Python counts it among the ints."""
    return isinstance(thing, int) and not isinstance(thing, bool)


def is_whole_within(thing, least, greatest):
    """Tell whether a thing is a whole number from least to greatest."""
    return is_whole(thing) and least <= thing <= greatest
