"""A desk: it reads orders, keeps rules and a row, and answers."""

from sixthrows.checks import are_letters
from sixthrows.errors import NoOrder
from sixthrows.free import joined, root
from sixthrows.loose import divisors
from sixthrows.nothing import coming_round, halves, order_of, same, shortened
from sixthrows.overlaps import check_short, clashes, least_lots
from sixthrows.rules import Rules, check_row_of, with_row
from sixthrows.states import States
from sixthrows.texts import EMPTY, read_number, read_row_or_none, row_text, rules_text

MOST_DROPPED = 99


def spaced(numbers):
    """Numbers separated by single spaces, `-` if there are none."""
    return " ".join([str(number) for number in numbers]) if numbers else EMPTY


def lines_or(lines, word):
    """Lines one below another, a word if there are none."""
    return "\n".join(lines) if lines else word


def answer_rules(rules, _):
    """The answer to `rules`."""
    return rules_text(rules)


def answer_short(rules, _):
    """The answer to `short`."""
    return lines_or([spaced(clash) for clash in clashes(rules)], "short")


def answer_lots(rules, _):
    """The answer to `lots`."""
    return "\n".join([spaced(lot) for lot in least_lots(rules)])


def answer_divisors(rules, _):
    """The answer to `divisors`."""
    letters_free, chain = divisors(rules)
    return spaced([letters_free] + chain)


def answer_nothing(rules, row):
    """The answer to `nothing`."""
    check_short(rules)
    left = shortened(halves(rules), row)
    return "nothing" if left == "" else f"rest {row_text(left)}"


def answer_order(rules, row):
    """The answer to `order`."""
    check_short(rules)
    times = order_of(rules, row)
    return "never" if times is None else str(times)


def answer_round(rules, _):
    """The answer to `round`."""
    return lines_or([f"{index} {row_text(base)} {times}" for index, base, times in coming_round(rules)], "none")


def answer_root(_, row):
    """The answer to `root`."""
    base, times = root(row)
    return f"{row_text(base)} {times}"


QUESTIONS = {
    "rules": answer_rules, "short": answer_short, "lots": answer_lots, "divisors": answer_divisors,
    "nothing": answer_nothing, "order": answer_order, "round": answer_round, "root": answer_root,
}


def read_value(word, text):
    """What stands behind the word of an order that takes something; None if it cannot stand there."""
    if word == "letters":
        return text if are_letters(text) else None
    if word == "drop":
        number = read_number(text)
        return number if number is not None and number <= MOST_DROPPED else None
    return read_row_or_none(text) if word in ("tell", "row", "same") else None


def read_order(text):
    """The tuple (word, value) of an order, the value None if it takes none; NoOrder if it is no order."""
    if isinstance(text, str):
        if text in QUESTIONS or text == "undo":
            return text, None
        word, _, rest = text.partition(" ")
        value = read_value(word, rest)
        if value is not None:
            return word, value
    raise NoOrder("this is no order")


def change(now, word, value):
    """Do an order that can be taken back, and return its answer."""
    if word == "letters":
        now.go_on(Rules(value), "")
        return f"letters {len(value)}"
    if word == "row":
        check_row_of(value, now.told.letters())
        now.go_on(now.told, joined([value]))
        return f"row {row_text(now.row)}"
    if word == "tell":
        check_row_of(value, now.told.letters())
        now.go_on(with_row(now.told, value), now.row)
    else:
        now.go_on(now.told.without(value), now.row)
    return f"rows {len(now.told.rows())}"


class Desk:
    """Rules and a row, as the orders that are not taken back have left them."""

    def __init__(self):
        self._states = States(Rules("ab"))

    def order(self, text):
        """Do what an order says, and return the answer."""
        word, value = read_order(text)
        if word in QUESTIONS:
            question = QUESTIONS[word]
            return question(self._states.told, self._states.row)
        if word == "same":
            return "same" if same(self._states.told, self._states.row, value) else "apart"
        if word == "undo":
            self._states.go_back()
            return "undone"
        return change(self._states, word, value)
