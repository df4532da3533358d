"""Rules in which all letters may change places: sums, divisors, orders."""

from math import gcd

from sixthrows.rules import check_row_of


def sums_of(letters, row):
    """For each letter, how often it stands in a row, less how often its back does."""
    return [row.count(letter) - row.count(letter.upper()) for letter in letters]


def told_sums(rules):
    """The list of the sums of the told rows."""
    return [sums_of(rules.letters(), row) for row in rules.rows()]


def less(one, two, times):
    """The sums of one, less so many times those of two."""
    return [first - times * second for first, second in zip(one, two)]


def gathered(lines, at):
    """The tuple (line, others): lines for the same sums, of which just line has any at a place.

    Some line has to have any there. If the first one has and divides all others there, it is line.
    """
    while True:
        _, chosen = min([(abs(line[at]), index) for index, line in enumerate(lines) if line[at] != 0])
        least = lines[chosen]
        others = [line for index, line in enumerate(lines) if index != chosen]
        rests = [less(line, least, line[at] // least[at]) for line in others]
        if not any([line[at] != 0 for line in rests]):
            return least, rests
        lines = [least] + rests


def stairs(lines):
    """Lines for the same sums, each with its first one behind that of the line before."""
    found = []
    left = lines
    width = len(lines[0]) if lines else 0
    for at in range(width):
        if any([line[at] != 0 for line in left]):
            first, left = gathered(left, at)
            found.append(first)
    return found


def crossed(lines):
    """The columns of lines as lines."""
    return [list(column) for column in zip(*lines)]


def diagonal(lines):
    """The numbers, each above 0, by which sums are left when all lines are put together."""
    # The number at a corner gets smaller until it divides all that is beside and below it;
    # then both stay empty, and the next corner has its turn.
    lines = stairs(lines)
    while any([len(line) - line.count(0) > 1 for line in lines]):
        lines = stairs(crossed(lines))
    return [abs(sum(line)) for line in lines]


def divisor_chain(numbers):
    """Numbers that leave the same rests together, each a divisor of the next one."""
    chain = list(numbers)
    for at in range(len(chain)):
        for later in range(at + 1, len(chain)):
            both = gcd(chain[at], chain[later])
            chain[at], chain[later] = both, chain[at] * chain[later] // both
    return chain


def sums(rules, row):
    """The tuple of the sums of a row, in the order of the letters."""
    check_row_of(row, rules.letters())
    return tuple(sums_of(rules.letters(), row))


def divisors(rules):
    """The tuple (free, list): the number of free letters, and the divisors above 1."""
    numbers = diagonal(told_sums(rules))
    chain = divisor_chain(numbers)
    return len(rules.letters()) - len(numbers), [number for number in chain if number > 1]


def loose_order(rules, row):
    """The least number of times that makes the sums of a row sums of told rows, or None."""
    check_row_of(row, rules.letters())
    left = sums_of(rules.letters(), row)
    order = 1
    for line in stairs(told_sums(rules)):
        at = [number != 0 for number in line].index(True)
        # Only this line has anything left at this place, so its times are a whole number.
        times = abs(line[at]) // gcd(line[at], left[at])
        order = order * times
        left = [times * number for number in left]
        left = less(left, line, left[at] // line[at])
    return order if not any([number != 0 for number in left]) else None
