"""Rules side by side, and the rows of few letters that are unlike by rules."""

from sixthrows.checks import is_row_of, is_whole_from
from sixthrows.errors import NoLength, NoMatch, NoRows, TooMany
from sixthrows.free import back
from sixthrows.nothing import halves, shortened
from sixthrows.overlaps import check_short
from sixthrows.rules import check_row_of

MOST_LENGTH = 4

MOST_FREE = 100


def check_match(rules, other):
    """Raise NoMatch unless two lots of rules have the same letters."""
    if rules.letters() != other.letters():
        raise NoMatch("the two lots of rules have unlike letters")


def check_length(value):
    """Raise NoLength unless a value is a length that may be asked for."""
    if not is_whole_from(value, 0, MOST_LENGTH):
        raise NoLength("a length is an integer from 0 to 4")


def following(rules, rows):
    """The ascending list of the indexes of the rows of a list that are nothing."""
    if not isinstance(rows, list):
        raise NoRows(0)
    for index, row in enumerate(rows):
        if not is_row_of(row, rules.letters()):
            raise NoRows(index)
    check_short(rules)
    known = halves(rules)
    return [index for index, row in enumerate(rows) if shortened(known, row) == ""]


def makes(rules, other):
    """Whether all told rows of other are nothing by rules."""
    return missing_row(rules, other) is None


def missing_row(rules, other):
    """The first told row of other that is not nothing by rules, None if there is none."""
    check_match(rules, other)
    check_short(rules)
    known = halves(rules)
    for row in other.rows():
        if shortened(known, row) != "":
            return row
    return None


def alike(rules, other):
    """Whether two lots of short rules make the same rows nothing."""
    check_match(rules, other)
    check_short(rules)
    check_short(other)
    return makes(rules, other) and makes(other, rules)


def free_rows(letters, length):
    """For each size up to length the ascending list of the free rows of this size."""
    signs = letters.upper() + letters
    sizes = [[""]]
    for _ in range(length):
        longer = [row + sign for row in sizes[-1] for sign in signs if row[-1:] != sign.swapcase()]
        sizes.append(longer)
    return sizes


def few_rows(letters, length):
    """The free rows as free_rows tells them; TooMany if they are more than 100 together."""
    sizes = free_rows(letters, length)
    if sum([len(rows) for rows in sizes]) > MOST_FREE:
        raise TooMany("there are more than 100 free rows of at most so many characters")
    return sizes


def first_same(known, row, others):
    """The first of other rows that is the same as a row, None if there is none."""
    for other in others:
        if shortened(known, row + back(other)) == "":
            return other
    return None


def unlike_counts(rules, length):
    """For each number up to length, how many unlike rows have at most so many characters."""
    check_length(length)
    check_short(rules)
    sizes = few_rows(rules.letters(), length)
    known = halves(rules)
    unlike = []
    counts = []
    for rows in sizes:
        for row in rows:
            if first_same(known, row, unlike) is None:
                unlike.append(row)
        counts.append(len(unlike))
    return counts


def shortest(rules, row, length):
    """The first of the shortest rows that are the same as a row, None if they are too long."""
    check_row_of(row, rules.letters())
    check_length(length)
    check_short(rules)
    sizes = few_rows(rules.letters(), length)
    known = halves(rules)
    # The shortest rows are free: what is not could be shortened.
    return first_same(known, shortened(known, row), [other for rows in sizes for other in rows])
