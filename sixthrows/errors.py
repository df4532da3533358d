"""The errors that the package raises."""


class RowError(ValueError):
    """The base of all errors of the package."""


class NoRow(RowError):
    """A value is not a row, or not one of the letters that are asked for."""


class NoLetters(RowError):
    """A value is not a string of one to four letters, ascending."""


class NoIndex(RowError):
    """A value is not the index of a told row."""


class NoTimes(RowError):
    """A value is not a number of times that a row may be written."""


class NotShort(RowError):
    """Rules are not short."""


class NoMatch(RowError):
    """Two lots of rules have unlike letters."""


class NoLength(RowError):
    """A value is not a length that may be asked for."""


class TooMany(RowError):
    """There is too much to look through."""


class NoMap(RowError):
    """A value is not a list of a permutation for each letter."""


class NoPoints(RowError):
    """A value is not a number of points that may be asked for."""


class NoProduct(RowError):
    """A value is not a list of leads, indexes and signs."""


class NothingToUndo(RowError):
    """There is no call left that could be taken back."""


class NoOrder(RowError):
    """A value is not an order that a desk takes."""


# The message leaves the field out: it may be any value, also one that has no short text.
class NoRows(RowError):
    """The item of `rows` with the index `index` cannot stand there."""

    def __init__(self, index):
        super().__init__("an item of the rows cannot stand there; the field index tells which")
        self.index = index


class NoText(RowError):
    """The line of a text with the index `line` cannot stand there."""

    def __init__(self, line):
        super().__init__("a line of the text cannot stand there; the field line tells which")
        self.line = line
