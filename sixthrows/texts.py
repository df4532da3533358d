"""Texts of rules, rows and products, and how they are read."""

from sixthrows.checks import are_letters, is_row, is_whole
from sixthrows.errors import NoProduct, NoText
from sixthrows.free import check_row
from sixthrows.rules import LONGEST_ROW, Rules, can_stand

DIGITS = "0123456789"

EMPTY = "-"

PLUS = "+"

MINUS = "-"

LONGEST_READ = 300

TOLD_END = " is nothing"


def read_number(text):
    """The integer that a text writes in decimal digits without leading zeros, None if it is no such text."""
    if text == "" or not all([char in DIGITS for char in text]):
        return None
    if text[0] == "0" and text != "0":
        return None
    return int(text)


def read_times(text, most):
    """How often a character stands with this number behind it, once without one; None if it cannot be."""
    if text == "":
        return 1
    times = read_number(text)
    return times if times is not None and 2 <= times <= most else None


def digits_end(text, at):
    """Where the digits end that stand in a text from a place on."""
    while at < len(text) and text[at] in DIGITS:
        at += 1
    return at


def read_nonempty(text, most):
    """The nonempty row of at most so many characters that a text writes, None if it writes none."""
    parts = []
    at = 0
    while at < len(text):
        end = digits_end(text, at + 1)
        times = read_times(text[at + 1:end], most)
        if times is None or not is_row(text[at]):
            return None
        parts.append(text[at] * times)
        at = end
    row = "".join(parts)
    return row if 1 <= len(row) <= most else None


def read_row_or_none(text):
    """The row that a text writes, also the empty one; None if it writes none."""
    return "" if text == EMPTY else read_nonempty(text, LONGEST_READ)


def written(row):
    """A row with numbers behind the characters that stand side by side, `-` for the empty one."""
    parts = []
    at = 0
    while at < len(row):
        end = at + 1
        while end < len(row) and row[end] == row[at]:
            end += 1
        parts.append(row[at] if end - at == 1 else f"{row[at]}{end - at}")
        at = end
    return "".join(parts) if parts else EMPTY


def rules_text(rules):
    """The text of rules: a line with the letters, and one for each told row."""
    lines = [f"letters {rules.letters()}"] + [written(row) + TOLD_END for row in rules.rows()]
    return "\n".join(lines)


def read_letters_line(line):
    """The letters that a line tells, None if it tells none."""
    word, _, letters = line.partition(" ")
    return letters if word == "letters" and are_letters(letters) else None


def read_told_line(line):
    """The row that a line tells to be nothing, None if it tells none."""
    if not line.endswith(TOLD_END):
        return None
    return read_nonempty(line.removesuffix(TOLD_END), LONGEST_ROW)


def read_rules(text):
    """The rules that a text tells."""
    if not isinstance(text, str):
        raise NoText(0)
    lines = text.split("\n")
    letters = read_letters_line(lines[0])
    if letters is None:
        raise NoText(0)
    rows = ()
    for index, line in enumerate(lines[1:], start=1):
        row = read_told_line(line)
        if not can_stand(row, letters, rows):
            raise NoText(index)
        rows = rows + (row,)
    return Rules(letters, rows)


def row_text(row):
    """The text of a row."""
    check_row(row)
    return written(row)


def read_row(text):
    """The row that a text writes."""
    row = read_row_or_none(text) if isinstance(text, str) else None
    if row is None:
        raise NoText(0)
    return row


def is_step(value):
    """Whether a value is a tuple of a lead, an index and a sign."""
    if not isinstance(value, tuple) or len(value) != 3:
        return False
    lead, index, sign = value
    return is_row(lead) and is_whole(index) and index >= 0 and is_whole(sign) and sign in (1, -1)


def step_text(step):
    """The line of a tuple of a product."""
    lead, index, sign = step
    mark = PLUS if sign == 1 else MINUS
    return f"{written(lead)} {index} {mark}"


def product_text(thing):
    """The text of a list of tuples (lead, index, sign), a line for each."""
    if not isinstance(thing, list) or not all([is_step(step) for step in thing]):
        raise NoProduct("a product is a list of tuples of a row, an integer from 0 on, and 1 or -1")
    return "\n".join([step_text(step) for step in thing])


def read_step(line):
    """The tuple that a line of a product writes, None if it writes none."""
    words = line.split(" ")
    if len(words) != 3 or words[2] not in (PLUS, MINUS):
        return None
    lead = read_row_or_none(words[0])
    index = read_number(words[1])
    if lead is None or index is None:
        return None
    return lead, index, 1 if words[2] == PLUS else -1


def read_product(text):
    """The list of tuples (lead, index, sign) that a text writes."""
    if not isinstance(text, str):
        raise NoText(0)
    if text == "":
        return []
    steps = []
    for index, line in enumerate(text.split("\n")):
        step = read_step(line)
        if step is None:
            raise NoText(index)
        steps.append(step)
    return steps
