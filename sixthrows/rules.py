"""Rules: letters, and told rows that are nothing."""

from sixthrows.checks import are_letters, is_index, is_row_of
from sixthrows.errors import NoIndex, NoLetters, NoRow, NoRows
from sixthrows.free import back, core

MOST_ROWS = 6

LONGEST_ROW = 40


def is_ring_row(value, letters):
    """Whether a value is a nonempty ring row of these letters, not too long."""
    # Only a ring row is all of the ring of its own core.
    return is_row_of(value, letters) and 0 < len(value) <= LONGEST_ROW and core(value)[1] == value


def is_turned(row, told):
    """Whether a row is a told one or its back, turned about in some way."""
    around = told + told
    return len(row) == len(told) and (row in around or back(row) in around)


def can_stand(value, letters, earlier):
    """Whether a value can be a told row behind earlier ones."""
    if len(earlier) >= MOST_ROWS or not is_ring_row(value, letters):
        return False
    return not any([is_turned(value, told) for told in earlier])


def check_index(value, rows):
    """Raise NoIndex unless a value is the index of one of these told rows."""
    if not is_index(value, rows):
        raise NoIndex("there is no told row with this index")


def check_row_of(value, letters):
    """Raise NoRow unless a value is a row of these letters and their backs."""
    if not is_row_of(value, letters):
        raise NoRow("this is not a row of the letters of the rules and their backs")


class Rules:
    """Letters and told rows; it does not change."""

    def __init__(self, letters, rows=()):
        if not are_letters(letters):
            raise NoLetters("letters are one to four distinct letters from a to z, ascending")
        if not isinstance(rows, tuple):
            raise NoRows(0)
        for index, row in enumerate(rows):
            if not can_stand(row, letters, rows[:index]):
                raise NoRows(index)
        self._letters = letters
        self._rows = rows

    def letters(self):
        """The letters that the rules were made of."""
        return self._letters

    def rows(self):
        """The told rows, in their order."""
        return self._rows

    def without(self, index):
        """The rules without the told row with this index."""
        check_index(index, self._rows)
        return Rules(self._letters, self._rows[:index] + self._rows[index + 1:])

    def __eq__(self, other):
        return isinstance(other, Rules) and self._letters == other._letters and self._rows == other._rows


def with_row(rules, row):
    """The rules with a told row more; NoRows, with the number of the others, if it cannot stand there."""
    return Rules(rules.letters(), rules.rows() + (row,))
