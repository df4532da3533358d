"""A live row: it grows, is turned and taken from, by rules that change, and all is taken back."""

from sixthrows.checks import is_row_of
from sixthrows.free import back, joined
from sixthrows.nothing import halves, order_of, shortened
from sixthrows.overlaps import check_short, shared
from sixthrows.rules import Rules, check_row_of, with_row
from sixthrows.states import States


def laid(free, row):
    """The least row of a free row with another row behind it."""
    coming = joined([row])
    # Both are free, so characters stand beside their backs only where they meet;
    # a live row may be too long to be looked through at each call.
    seam = shared(back(free), coming)
    return free[:len(free) - seam] + coming[seam:]


class Live:
    """A row and short rules, as they are after the calls that stand."""

    def __init__(self, rules):
        check_short(rules)
        # Made anew, since no argument is kept.
        self._states = States(Rules(rules.letters(), rules.rows()))

    def lay(self, row):
        """Put a row behind this one."""
        now = self._states
        check_row_of(row, now.told.letters())
        now.go_on(now.told, laid(now.row, row))

    def take(self):
        """Take the last character of the least row away and return it; "" if there is none."""
        now = self._states
        last = now.row[-1:]
        now.go_on(now.told, now.row[:-1])
        return last

    def turn(self):
        """Put the first character of the least row at its end."""
        now = self._states
        now.go_on(now.told, laid(now.row[1:], now.row[:1]))

    def tell(self, row):
        """Put a told row more at the end of the rules."""
        now = self._states
        rules = with_row(now.told, row)
        check_short(rules)
        now.go_on(rules, now.row)

    def drop(self, index):
        """Take the told row with this index out of the rules."""
        now = self._states
        now.go_on(now.told.without(index), now.row)

    def undo(self):
        """Take back the last call that stands."""
        self._states.go_back()

    def is_nothing(self):
        """Whether the row is nothing."""
        return self.rest() == ""

    def rest(self):
        """A free row that is the same as the row, without more than half of a kin."""
        return shortened(halves(self._states.told), self._states.row)

    def order(self):
        """The least number of times that makes the row nothing, None if there is none."""
        return order_of(self._states.told, self._states.row)

    @property
    def least(self):
        """The least row."""
        return self._states.row

    @property
    def rules(self):
        """The rules as they are."""
        return self._states.told

    def __len__(self):
        return len(self._states.before)

    def __contains__(self, value):
        if not is_row_of(value, self._states.told.letters()):
            return False
        return shortened(halves(self._states.told), value + back(self._states.row)) == ""
