"""A wire carries rows one way."""

from tornrelay.code import BLANK, RUBBED_OUT, hit_tape
from tornrelay.errors import Busy
from tornrelay.frames import left_rows


class Wire:
    """Rows that are going, and rows that have come and are not torn off."""

    def __init__(self):
        self.going = []
        self.come = []

    def send_rows(self, rows):
        """Send rows, one at least."""
        if self.going:
            raise Busy("rows are going")
        self.going = list(rows)

    def run_rows(self, masks):
        """Let one row go over for each mask, hit by it, as far as there are some; tell how many."""
        over = hit_tape(self.going, masks)
        self.going = self.going[len(over):]
        self.come.extend(over)
        return len(over)

    def break_rows(self):
        """Drop the rows still going; tell whether there were some."""
        if not self.going:
            return False
        self.going = []
        self.come.extend([RUBBED_OUT, BLANK])
        return True

    def tear_rows(self):
        """Tear off the rows that have come, all while none are going, else up to the last 0."""
        torn = self.come
        left = left_rows(torn)
        if self.going:
            self.come = left
            return torn[:len(torn) - len(left)]
        self.come = []
        return torn + [BLANK] if left else torn

    def rows_going(self):
        """Tell the rows that are going."""
        return list(self.going)

    def rows_come(self):
        """Tell the rows that have come and are not torn off."""
        return list(self.come)
