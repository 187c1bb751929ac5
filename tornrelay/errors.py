"""The refusals of tornrelay."""


class RelayError(ValueError):
    """Any refusal."""


class NoText(RelayError):
    """What was handed in is no writing."""


class NoBody(RelayError):
    """What was handed in is no body of a frame."""


class NoSlip(RelayError):
    """What was handed in is no slip."""


class Busy(RelayError):
    """Rows are going on the wire already."""


class NoBook(RelayError):
    """What was handed in is no book of the house; where is the place of its first fault."""

    def __init__(self, where):
        super().__init__("no book of this house")
        self.where = where


class NoHung(RelayError):
    """Not all of the ways hang with the stamp."""


class NoNumber(RelayError):
    """The number is none with which this can be done."""


class NoNet(RelayError):
    """There is no such net."""


class NoHouse(RelayError):
    """There is no such house."""


class HouseDown(RelayError):
    """The house is down."""


class HouseUp(RelayError):
    """The house is up."""


class NoRank(RelayError):
    """There is no such rank."""


class NoWays(RelayError):
    """What was handed in are no ways."""


class TooMany(RelayError):
    """No more messages are taken in on this day."""


class NoChannel(RelayError):
    """There is no such channel."""


class Shut(RelayError):
    """The channel can't be used now."""


class Nothing(RelayError):
    """There is nothing to send."""


class NoLine(RelayError):
    """There is no such line."""


class TooLate(RelayError):
    """No hour comes behind this one."""


class NoMessage(RelayError):
    """There is no such message."""


class NoDay(RelayError):
    """There was no such day yet."""


class NoSaying(RelayError):
    """The desk is told nothing by this."""
