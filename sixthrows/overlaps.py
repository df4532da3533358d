"""Overlaps of told rows: kin, pieces, and rules whose overlaps are short."""

from sixthrows.checks import is_whole_from
from sixthrows.errors import NotShort, NoTimes
from sixthrows.free import back
from sixthrows.rules import Rules, check_index

MOST_TIMES = 40

PARTS = 6

# Two told rows of at most 40 characters that are repeated without end are the same,
# or part before so many characters.
ENDLESS = 80


def turned(row):
    """The row turned about in all ways."""
    return [row[at:] + row[:at] for at in range(len(row))]


def kin(row):
    """The ascending list of the kin of a told row, each once."""
    return sorted(set(turned(row) + turned(back(row))))


def shared(one, two):
    """How many characters two rows begin with alike."""
    size = 0
    for first, second in zip(one, two):
        if first != second:
            return size
        size += 1
    return size


def neighbours(rules):
    """The kin of all told rows, each with the next one, as strings are ordered."""
    ordered = sorted([row for told in rules.rows() for row in kin(told)])
    return list(zip(ordered, ordered[1:]))


def longest_starts(lots):
    """For each pair (one, two) of lots of rows: how long rows of both begin alike, at most.

    One is not greater than two; a row is not held against itself in its own lot.
    """
    longest = {(one, two): 0 for two in range(len(lots)) for one in range(two + 1)}
    ordered = sorted([(row, lot) for lot, rows in enumerate(lots) for row in rows])
    # A row begins most alike with the nearest row of a lot in this order, and no more
    # alike than any two neighbours between them.
    reach = [0] * len(lots)
    before = ""
    for row, lot in ordered:
        size = shared(before, row)
        for other in range(len(lots)):
            reach[other] = min(reach[other], size)
            pair = (min(lot, other), max(lot, other))
            longest[pair] = max(longest[pair], reach[other])
        reach[lot] = len(row)
        before = row
    return longest


def least_long(one, two):
    """The least length of an overlap that is too long for one of two told rows, or their kin."""
    return (min(len(one), len(two)) + PARTS - 1) // PARTS


def begin_long(one, two):
    """Whether what two kin begin with is too long for one of them."""
    size = least_long(one, two)
    return one[:size] == two[:size]


def overlap(rules, one, two):
    """The length of the longest piece of a kin of one and an unlike kin of two."""
    rows = rules.rows()
    check_index(one, rows)
    check_index(two, rows)
    if one == two:
        return longest_starts([kin(rows[one])])[(0, 0)]
    return longest_starts([kin(rows[one]), kin(rows[two])])[(0, 1)]


def pieces(rules):
    """The ascending list of the pieces that are no beginning of a longer piece."""
    starts = sorted({one[:shared(one, two)] for one, two in neighbours(rules)})
    # What begins with a row stands right behind it in this order; with the empty row all begins.
    return [row for row, later in zip(starts, starts[1:] + [""]) if not later.startswith(row)]


def is_short(rules):
    """Whether no piece is as long as a sixth of a told row that it is in."""
    # If two kin overlap for too long, the shorter one and its neighbour do so, too.
    return not any([begin_long(one, two) for one, two in neighbours(rules)])


def check_short(rules):
    """Raise NotShort unless rules are short."""
    if not is_short(rules):
        raise NotShort("a piece is as long as a sixth of a told row that it is in")


def clashes(rules):
    """The ascending list of the tuples (one, two, length) of overlaps that are too long."""
    rows = rules.rows()
    longest = longest_starts([kin(row) for row in rows])
    return sorted([
        (one, two, longest[(one, two)]) for one, two in longest
        if longest[(one, two)] >= least_long(rows[one], rows[two])
    ])


def is_enough(lot, pairs):
    """Whether each of these pairs of indexes has one in a lot."""
    return all([one in lot or two in lot for one, two in pairs])


def is_least(lot, pairs):
    """Whether a lot is enough, and is not without any one of its indexes."""
    fewer = [lot[:at] + lot[at + 1:] for at in range(len(lot))]
    return is_enough(lot, pairs) and not any([is_enough(less, pairs) for less in fewer])


def least_lots(rules):
    """The ascending list of the least tuples of indexes without which rules are short."""
    # Pieces come of two told rows at most, so the rest is short if no two of it clash.
    pairs = [(one, two) for one, two, _ in clashes(rules)]
    lots = [()]
    for index in range(len(rules.rows())):
        lots = lots + [lot + (index,) for lot in lots]
    return sorted([lot for lot in lots if is_least(lot, pairs)])


def power(rules, times):
    """The rules whose rows are the told ones, each written so many times."""
    if not is_whole_from(times, 1, MOST_TIMES):
        raise NoTimes("a number of times is an integer from 1 to 40")
    return Rules(rules.letters(), tuple([row * times for row in rules.rows()]))


def endless(row):
    """As much of a row, repeated without end, as tells it from all others."""
    return (row * ENDLESS)[:ENDLESS]


def least_power(rules):
    """The least number of times that makes the told rows, so repeated, short; or None."""
    rows = rules.rows()
    longest = longest_starts([[endless(row) for row in kin(told)] for told in rows])
    times = 1
    for one, two in longest:
        # Rows with one root never part, however often they are written.
        if longest[(one, two)] == ENDLESS:
            return None
        shorter = min(len(rows[one]), len(rows[two]))
        times = max(times, PARTS * longest[(one, two)] // shorter + 1)
    return times
