"""Rows as they are without rules: least rows, cores, roots, rings alike."""

from sixthrows.checks import is_row
from sixthrows.errors import NoRow, NoRows


def check_row(value):
    """Raise NoRow unless a value is a row."""
    if not is_row(value):
        raise NoRow("a row is a string of letters from a to z and capitals")


def least(row):
    """The free row that is left when characters beside their backs are taken out."""
    check_row(row)
    kept = []
    for char, opposite in zip(row, row.swapcase()):
        if kept and kept[-1] == opposite:
            kept.pop()
        else:
            kept.append(char)
    return "".join(kept)


def back(row):
    """The backs of the characters, from the last one to the first one."""
    check_row(row)
    return row[::-1].swapcase()


def joined(rows):
    """The least row of the rows of a list, one behind another."""
    if not isinstance(rows, list):
        raise NoRows(0)
    for index, row in enumerate(rows):
        if not is_row(row):
            raise NoRows(index)
    return least("".join(rows))


def core(row):
    """The tuple (lead, ring): lead, ring and the back of lead are the least row."""
    free = least(row)
    opposite = back(free)
    ends = 0
    while ends < len(free) // 2 and free[ends] == opposite[ends]:
        ends += 1
    return free[:ends], free[ends:len(free) - ends]


def root(row):
    """The tuple (root, times): the least row is the root so many times, and no more often."""
    lead, ring = core(row)
    if ring == "":
        return "", 0
    # A ring that is turned about by so many characters and is itself again repeats them.
    size = (ring + ring).find(ring, 1)
    return lead + ring[:size] + back(lead), len(ring) // size


def ring_alike(one, two):
    """Whether some row leads from one to two."""
    return ring_lead(one, two) is not None


def ring_lead(one, two):
    """A free row that, before two and with its back behind two, joined, gives one; or None."""
    first_lead, first_ring = core(one)
    second_lead, second_ring = core(two)
    if len(first_ring) != len(second_ring):
        return None
    turned = (second_ring + second_ring).find(first_ring)
    if turned < 0:
        return None
    return least(first_lead + back(second_ring[:turned]) + back(second_lead))


def pass_freely(one, two):
    """Whether one and two, joined, are freely alike to two and one, joined."""
    check_row(one)
    check_row(two)
    return least(one + two) == least(two + one)
