"""The code of five holes: what the rows of a tape say, and how writing is punched."""

from tornrelay.errors import NoText

MOST_SIGNS = 400

# The sign of row n stands at place n - 1; the last two rows say the same in both.
LETTERS = "abcdefghijklmnopqrstuvwxyz |"
FIGURES = "1234567890-/.,?()+:='***** |"
NO_FIGURE = "*"
LAST_TURNED = 26

BLANK = 0
TO_LETTERS = 29
TO_FIGURES = 30
RUBBED_OUT = 31


def is_shift(row):
    """Tell whether from this row on letters, or figures, are read."""
    return row in (TO_LETTERS, TO_FIGURES)


def is_turned(row):
    """Tell whether the row says one sign in letters and another in figures."""
    return 1 <= row <= LAST_TURNED


def signs_behind(shift):
    """Tell the signs that rows say behind a shift."""
    return FIGURES if shift == TO_FIGURES else LETTERS


def sign_of(row, shift):
    """Tell what a row says behind a shift, an empty text where it says nothing."""
    signs = signs_behind(shift)
    return signs[row - 1] if 1 <= row <= len(signs) else ""


def said_by_rows(tape):
    """Tell what each row of a tape says."""
    said = []
    shift = TO_LETTERS
    for row in tape:
        if is_shift(row):
            shift = row
        said.append(sign_of(row, shift))
    return said


def read_tape(tape):
    """Tell what a tape says as one text."""
    return "".join(said_by_rows(tape))


def is_writing_sign(sign):
    """Tell whether a sign may stand in writing."""
    return sign != NO_FIGURE and (sign in LETTERS or sign in FIGURES)


def is_writing(thing):
    """Tell whether a thing is writing."""
    if not isinstance(thing, str) or len(thing) > MOST_SIGNS:
        return False
    return all(is_writing_sign(sign) for sign in thing)


def punch(thing):
    """Punch writing as the shortest tape that says it."""
    if not is_writing(thing):
        raise NoText("no writing")
    tape = []
    shift = TO_LETTERS
    for sign in thing:
        if sign not in signs_behind(shift):
            shift = TO_LETTERS if sign in LETTERS else TO_FIGURES
            tape.append(shift)
        tape.append(signs_behind(shift).index(sign) + 1)
    return tape


def is_needless_shift(tape, place, shift):
    """Tell whether the row right behind the shift at a place would be read the same without it."""
    behind = place + 1
    return tape[place] == shift or behind == len(tape) or not is_turned(tape[behind])


def is_fault(tape, place, shift):
    """Tell whether punching never leaves the row at a place so, behind this shift."""
    row = tape[place]
    if is_shift(row):
        return is_needless_shift(tape, place, shift)
    return row in (BLANK, RUBBED_OUT) or sign_of(row, shift) == NO_FIGURE


def faults(tape):
    """Tell the places of the rows that no punched tape has there."""
    found = []
    shift = TO_LETTERS
    for place, row in enumerate(tape):
        if is_fault(tape, place, shift):
            found.append(place)
        if is_shift(row):
            shift = row
    return found


def reach(tape, place):
    """Tell from which place on rows say the same whatever is done to the row at a place."""
    for behind, row in enumerate(tape):
        if behind > place and is_shift(row):
            return behind
    return len(tape)


def hit_tape(tape, masks):
    """Punch the holes of each mask into the row at its place."""
    return [row | mask for row, mask in zip(tape, masks)]
