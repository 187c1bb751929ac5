"""The desk: rows of words in, answers of words out."""

from tornrelay.deeds import ask, begin, check, come_up, cut_line, go_down, mend_line, next_hour, run, run_out
from tornrelay.deeds import take_in, tear
from tornrelay.errors import NoMessage, NoNet, NoSaying
from tornrelay.net import Net
from tornrelay.slips import whole_of, written
from tornrelay.tellings import clock, closing, given_at, hung_at, lies, links_of, missing_at, rack_at, trace
from tornrelay.works import work

DONE = "ok"
NOTHING = "-"
MOST_MASK = 31
ROAD_PARTS = 5


def shown_parts(thing):
    """Tell the texts of a tuple's things, those of tuples within it among them."""
    if isinstance(thing, tuple):
        return [text for part in thing for text in shown_parts(part)]
    return [NOTHING if thing == "" else str(thing)]


def shown(thing):
    """Tell a tuple as an answer."""
    return ",".join(shown_parts(thing))


def shown_list(things):
    """Tell a list of tuples as an answer."""
    return " ".join([shown(thing) for thing in things]) if things else NOTHING


def number_said(word):
    """Tell the number that a word says."""
    number = whole_of(word)
    if number is None or str(number) != word:
        raise NoSaying("no number")
    return number


def mask_said(word):
    """Tell the mask that a word says."""
    mask = number_said(word)
    if mask > MOST_MASK:
        raise NoSaying("no mask")
    return mask


def masks_said(word):
    """Tell the masks that a word says."""
    return [mask_said(part) for part in word.split(",")]


def road_said(word):
    """Tell the line that a word says, be it one of a net or not."""
    parts = word.split(",")
    if len(parts) != ROAD_PARTS or "" in parts:
        raise NoSaying("no road")
    one, other, ways, first, last = parts
    return (one, other, number_said(ways), number_said(first), number_said(last))


def word_said(word):
    """Tell the word itself: what it stands for is the deed's to ask."""
    return word


SAID = {"number": number_said, "masks": masks_said, "road": road_said, "word": word_said}

# What stands behind the first word of each row, and what may stand behind that as often as one likes.
FORMS = {
    "net": ("number",), "hand": ("word", "number", "word", "word"),
    "begin": ("number", "word"), "check": ("number", "word"), "ask": ("number", "word", "number"),
    "run": ("number", "word", "masks"), "out": ("number", "word"), "tear": ("number", "word"),
    "hour": (), "cut": ("number",), "mend": ("number",), "down": ("word",), "up": ("word",), "work": (),
    "clock": (), "links": (), "rack": ("number", "word"), "missing": ("number", "word"),
    "hung": ("word",), "given": ("word",), "text": ("word", "number", "word"),
    "lies": ("word", "number", "word"), "trace": ("word", "number", "word"), "closing": ("number",),
}
MORE = {"net": "road", "hand": "word"}


def read_row(thing):
    """Tell the first word of a row, and the list of what is said behind it."""
    words = thing.split(" ") if isinstance(thing, str) else [""]
    if "" in words or words[0] not in FORMS:
        raise NoSaying("no row of the desk")
    first, *rest = words
    kinds = list(FORMS[first])
    if first in MORE:
        kinds.extend([MORE[first]] * (len(rest) - len(kinds)))
    if len(rest) != len(kinds):
        raise NoSaying("too few words, or too many")
    return first, [part_said(kind, word) for kind, word in zip(kinds, rest)]


def part_said(kind, word):
    """Tell what a word of a row says, read as one of its kind."""
    read = SAID[kind]
    return read(word)


def do_hand(net, house, rank, ways, *words):
    """Hand a message in; tell its serial."""
    return str(take_in(net, house, rank, ways, " ".join(words)))


def do_begin(net, line, house):
    """Begin a sending; tell its slip."""
    return written(begin(net, line, house))


def do_check(net, line, house):
    """Begin a check; tell its slip."""
    return written(check(net, line, house))


def do_ask(net, line, house, of):
    """Begin an asking; tell its slip."""
    return written(ask(net, line, house, of))


def do_run(net, line, house, masks):
    """Let rows go over with masks; tell how many."""
    return str(run(net, line, house, masks))


def do_out(net, line, house):
    """Let all rows go over; tell how many."""
    return str(run_out(net, line, house))


def do_tear(net, line, house):
    """Tear what came; tell of it."""
    return shown_list(tear(net, line, house))


def do_hour(net):
    """Let the next hour come; tell the clock."""
    return shown(next_hour(net))


def do_cut(net, line):
    """Cut a line."""
    cut_line(net, line)
    return DONE


def do_mend(net, line):
    """Mend a line."""
    mend_line(net, line)
    return DONE


def do_down(net, house):
    """Let a house go down."""
    go_down(net, house)
    return DONE


def do_up(net, house):
    """Let a house come up."""
    come_up(net, house)
    return DONE


def do_work(net):
    """Do all that can be done; tell how many messages came in."""
    return str(work(net))


def tell_clock(net):
    """Tell the day and the hour."""
    return shown(clock(net))


def tell_links(net):
    """Tell the links."""
    return shown_list(links_of(net))


def tell_rack(net, line, house):
    """Tell a rack."""
    return shown_list([(rank, stamp, ways, again) for rank, stamp, again, ways in rack_at(net, line, house)])


def tell_missing(net, line, house):
    """Tell what is missing."""
    return shown_list(missing_at(net, line, house))


def tell_hung(net, house):
    """Tell what hangs at a house."""
    tapes = hung_at(net, house)
    return shown_list([(stamp, origin, serial, ways, path) for stamp, rank, origin, serial, ways, path, text in tapes])


def tell_given(net, house):
    """Tell what was given at a house."""
    return shown_list([(origin, serial) for origin, serial, text in given_at(net, house)])


def tell_text(net, origin, serial, way):
    """Tell the text of a message as it was given."""
    if lies(net, origin, serial, way) != ("given", way):
        raise NoMessage("the message isn't given yet")
    texts = [text for one, number, text in given_at(net, way) if (one, number) == (origin, serial)]
    return '"' + texts[0] + '"'


def tell_lies(net, origin, serial, way):
    """Tell where a message lies."""
    return shown(lies(net, origin, serial, way))


def tell_trace(net, origin, serial, way):
    """Tell the trace of a message."""
    return shown_list(trace(net, origin, serial, way))


def tell_closing(net, day):
    """Tell the closing of a day."""
    return shown_list(closing(net, day))


ACTIONS = {
    "hand": do_hand, "begin": do_begin, "check": do_check, "ask": do_ask, "run": do_run, "out": do_out,
    "tear": do_tear, "hour": do_hour, "cut": do_cut, "mend": do_mend, "down": do_down, "up": do_up, "work": do_work,
    "clock": tell_clock, "links": tell_links, "rack": tell_rack, "missing": tell_missing, "hung": tell_hung,
    "given": tell_given, "text": tell_text, "lies": tell_lies, "trace": tell_trace, "closing": tell_closing,
}


class Desk:
    """Keeps one net, and answers rows of words about it."""

    def __init__(self):
        self.net = None

    def say(self, row):
        """Take a row; tell the answer."""
        first, parts = read_row(row)
        if first == "net":
            self.net = Net(parts[0], parts[1:])
            return DONE
        if self.net is None:
            raise NoNet("no net stands yet")
        action = ACTIONS[first]
        return action(self.net, *parts)
