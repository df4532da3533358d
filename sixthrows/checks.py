"""Tells of what kind a value is; the errors are left to the callers."""

SMALL = "abcdefghijklmnopqrstuvwxyz"

MOST_LETTERS = 4


def is_whole(value):
    """Whether a value is an integer; True and False are none."""
    return isinstance(value, int) and not isinstance(value, bool)


def is_whole_from(value, lowest, highest):
    """Whether a value is an integer within these bounds."""
    return is_whole(value) and lowest <= value <= highest


def is_index(value, items):
    """Whether a value is the index of one of these items; none is below 0."""
    return is_whole_from(value, 0, len(items) - 1)


def is_row(value):
    """Whether a value is a string of letters from a to z and capitals."""
    # isalpha alone would let letters of other alphabets pass, and would deny the empty row.
    return isinstance(value, str) and (value == "" or (value.isascii() and value.isalpha()))


def is_row_of(value, letters):
    """Whether a value is a row of these letters and their backs."""
    return is_row(value) and all([char in letters for char in value.lower()])


def are_letters(value):
    """Whether a value is a string of one to four distinct letters, ascending."""
    if not isinstance(value, str) or not 1 <= len(value) <= MOST_LETTERS:
        return False
    ascending = all([value[at - 1] < value[at] for at in range(1, len(value))])
    return ascending and all([char in SMALL for char in value])
