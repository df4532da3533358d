"""What is nothing by short rules: rests, products, orders."""

from sixthrows.checks import is_index, is_row_of, is_whole
from sixthrows.free import back, core, least, root
from sixthrows.overlaps import check_short
from sixthrows.rules import LONGEST_ROW, check_row_of


def check_asked(rules, rows):
    """Raise NoRow unless all are rows of the rules' letters, then NotShort unless rules are short."""
    for row in rows:
        check_row_of(row, rules.letters())
    check_short(rules)


def halves(rules):
    """For each size the rows of it that are just more than half of a kin.

    To each belongs a tuple: the rest of the kin, the told row with its index, or its back
    with the sign -1, and by how many characters the kin is this one turned about.
    """
    known = {}
    for row in rules.rows():
        known[len(row) // 2 + 1] = {}
    for index, row in enumerate(rules.rows()):
        size = len(row) // 2 + 1
        for sign, told in ((1, row), (-1, back(row))):
            around = told + told
            # Turned about by its root, a row is itself again.
            for at in range(len(told) // root(told)[1]):
                known[size][around[at:at + size]] = (around[at + size:at + len(told)], told, index, sign, at)
    return known


def half_at_end(known, kept):
    """The tuple (size, found) of a half that a list of characters ends with; or None."""
    for size in known:
        found = known[size].get("".join(kept[-size:]))
        if found is not None:
            return size, found
    return None


def taken_out(known, row, noting):
    """The tuple (rest, steps): what is left when halves are taken out, and a product of the others.

    The steps are left out unless noting is True: the leads of long rows are long.
    """
    kept = []
    coming = list(least(row)[::-1])
    steps = []
    while coming:
        char = coming.pop()
        if kept and kept[-1] == char.swapcase():
            kept.pop()
            continue
        kept.append(char)
        half = half_at_end(known, kept)
        if half is None:
            continue
        size, (ending, told, index, sign, at) = half
        for _ in range(size):
            kept.pop()
        if noting:
            # Told within the back of what it begins with is told, turned about.
            steps.append((least("".join(kept) + back(told[:at])), index, sign))
        # The back of the ending comes next; the list gives its last character first.
        coming.extend(ending.swapcase())
    return "".join(kept), steps


def shortened(known, row):
    """What is left of a row when halves are taken out."""
    return taken_out(known, row, False)[0]


def is_nothing(rules, row):
    """Whether a row is nothing."""
    return rest(rules, row) == ""


def same(rules, one, two):
    """Whether one and the back of two, joined, are nothing."""
    check_asked(rules, [one, two])
    return shortened(halves(rules), one + back(two)) == ""


def rest(rules, row):
    """A free row that is the same as a row, without more than half of a kin."""
    check_asked(rules, [row])
    return shortened(halves(rules), row)


def is_rest(rules, row):
    """Whether a row is free and has no more than half of a kin, side by side."""
    check_asked(rules, [row])
    # Taking out makes each row shorter that is not free or has more than half of a kin.
    return shortened(halves(rules), row) == row


def product(rules, row):
    """A product with the least row of a row, None if the row is not nothing."""
    check_asked(rules, [row])
    left, steps = taken_out(halves(rules), row, True)
    return steps if left == "" else None


def is_step(rules, value):
    """Whether a value is a tuple (lead, index, sign) of a product."""
    if not isinstance(value, tuple) or len(value) != 3:
        return False
    lead, index, sign = value
    if not is_row_of(lead, rules.letters()) or not is_index(index, rules.rows()):
        return False
    return is_whole(sign) and sign in (1, -1)


def step_row(rules, step):
    """The row that a tuple of a product puts to it, as it stands."""
    lead, index, sign = step
    told = rules.rows()[index]
    return lead + (told if sign == 1 else back(told)) + back(lead)


def is_product(rules, row, thing):
    """Whether a value is a product with the least row of a row."""
    check_row_of(row, rules.letters())
    if not isinstance(thing, list) or not all([is_step(rules, step) for step in thing]):
        return False
    return least("".join([step_row(rules, step) for step in thing])) == least(row)


def possible_orders(rules):
    """The ascending list of 1 and all divisors of the times of the roots of told rows."""
    found = [1]
    for row in rules.rows():
        times = root(row)[1]
        found = found + [number for number in range(2, times + 1) if times % number == 0]
    return sorted(set(found))


def ring_rest(known, row):
    """A ring row that is the same as a row within some lead; it and it turned about by half are rests."""
    ring = core(shortened(known, row))[1]
    while True:
        middle = len(ring) // 2
        other = core(shortened(known, ring[middle:] + ring[:middle]))[1]
        if len(other) == len(ring):
            return ring
        ring = other


def order_of(rules, row):
    """The order of a row by rules that are short."""
    known = halves(rules)
    # A lead before a row and its back behind it do not change its order.
    ring = ring_rest(known, row)
    # More than half of a kin would stand in such a ring or in it turned about by half, too:
    # written often, it stays as it is. This spares long rows the looking through.
    if len(ring) > LONGEST_ROW:
        return None
    for times in possible_orders(rules):
        if shortened(known, ring * times) == "":
            return times
    return None


def order(rules, row):
    """The least number of times that makes a row nothing, None if there is none."""
    check_asked(rules, [row])
    return order_of(rules, row)


def coming_round(rules):
    """The ascending list of the tuples (index, root, times) of told rows, times at least 2."""
    check_short(rules)
    found = []
    for index, row in enumerate(rules.rows()):
        base, times = root(row)
        if times >= 2:
            found.append((index, base, times))
    return found
