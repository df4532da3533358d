import inspect
import random
import re
import unittest

from sixthrows import desks as module
from sixthrows import errors
from sixthrows.desks import Desk
from sixthrows.free import core, root
from sixthrows.live import Live
from sixthrows.loose import divisors
from sixthrows.nothing import coming_round, is_nothing, order, rest, same
from sixthrows.overlaps import clashes, is_short, least_lots
from sixthrows.rules import Rules
from sixthrows.texts import row_text, rules_text
from tests.samples import DOC, NOT_SHORT, NOT_STRINGS, SHORT, SURFACE, Raising, plain_kin, random_row, reduced

QUESTIONS = ("rules", "short", "lots", "divisors", "nothing", "order", "round", "root")
FOR_SHORT = ("nothing", "order", "round")
NOT_ROW_TEXTS = (
    "", " ", "--", "a-", "-a", "2", "a0", "a1", "a01", "a02", "a301", "a300a", "a150b151", "a" * 301, "a b", "a ", " a",
    "a\n", "a\tb", "a" + "9" * 60, "a.", "a^2", "\u00e9", "a\u00b2", "a\u0662", "\u0430", "0", "+",
)


def numbered(found):
    return " ".join(map(str, found)) or "-"


class Plain:
    """What a desk has to be: a list of rules and rows, and the functions of the other modules."""

    def __init__(self):
        self.states = [(Rules("ab"), "")]

    def answer(self, text):
        """The answer that is due, or the own error."""
        rules, row = self.states[-1]
        if text in QUESTIONS:
            return getattr(self, "say_" + text)(rules, row)
        if text == "undo":
            if len(self.states) == 1:
                raise errors.NothingToUndo("")
            self.states.pop()
            return "undone"
        if match := re.fullmatch("letters ([a-z]{1,4})", text):
            letters = match[1]
            if list(letters) != sorted(set(letters)):
                raise errors.NoOrder("")
            self.states.append((Rules(letters), ""))
            return f"letters {len(letters)}"
        if match := re.fullmatch("drop (0|[1-9][0-9]?)", text):
            index = int(match[1])
            told = rules.rows()
            if index >= len(told):
                raise errors.NoIndex("")
            self.states.append((Rules(rules.letters(), told[:index] + told[index + 1:]), row))
            return f"rows {len(told) - 1}"
        if match := re.fullmatch("(tell|row|same) ([a-zA-Z0-9]+|-)", text):
            return self.with_row(match[1], match[2])
        raise errors.NoOrder("")

    def with_row(self, word, text):
        rules, row = self.states[-1]
        if text != "-" and not re.fullmatch("(?:[a-zA-Z](?:[2-9]|[1-9][0-9]|[12][0-9][0-9]|300)?)+", text):
            raise errors.NoOrder("")
        other = "" if text == "-" else re.sub("(.)([0-9]+)", lambda found: found[1] * int(found[2]), text)
        if len(other) > 300:
            raise errors.NoOrder("")
        if not set(other.lower()) <= set(rules.letters()):
            raise errors.NoRow("")
        if word == "same":
            return "same" if same(rules, row, other) else "apart"
        if word == "row":
            self.states.append((rules, reduced(other)))
            return "row " + row_text(reduced(other))
        told = rules.rows()
        if len(told) == 6 or not 0 < len(other) <= 40 or core(other) != ("", other):
            raise errors.NoRows(len(told))
        if any(other in plain_kin(one) for one in told):
            raise errors.NoRows(len(told))
        self.states.append((Rules(rules.letters(), told + (other,)), row))
        return f"rows {len(told) + 1}"

    def say_rules(self, rules, _):
        return rules_text(rules)

    def say_short(self, rules, _):
        return "\n".join(map(numbered, clashes(rules))) or "short"

    def say_lots(self, rules, _):
        return "\n".join(map(numbered, least_lots(rules)))

    def say_divisors(self, rules, _):
        free, chain = divisors(rules)
        return numbered([free] + chain)

    def say_nothing(self, rules, row):
        return "nothing" if is_nothing(rules, row) else "rest " + row_text(rest(rules, row))

    def say_order(self, rules, row):
        return str(order(rules, row) or "never")

    def say_round(self, rules, _):
        return "\n".join(f"{at} {row_text(base)} {times}" for at, base, times in coming_round(rules)) or "none"

    def say_root(self, _, row):
        base, times = root(row)
        return f"{row_text(base)} {times}"


def laid_out(rules, row="-"):
    """A desk with these rules and a row."""
    desk = Desk()
    desk.order("letters " + rules.letters())
    for told in rules.rows():
        desk.order("tell " + row_text(told))
    desk.order("row " + row)
    return desk


class Checks(Raising):
    def check_answers(self, desk, pairs):
        for text, answer in pairs:
            with self.subTest(text=text):
                found = desk.order(text)
                self.assertEqual(found, answer)
                self.assertIs(type(found), str)

    def seen(self, desk):
        """All that a desk tells of itself, also where it refuses to."""
        found = []
        for text in QUESTIONS + ("same a", "same b", "same -"):
            try:
                found.append(desk.order(text))
            except errors.RowError as error:
                found.append(type(error).__name__)
        return found

    def check_refused(self, desk, name, text):
        """Check that an order raises an error, and changes nothing."""
        before = self.seen(desk)
        own = self.assert_raises(name, desk.order, text)
        self.assert_raises(name, desk.order, text=text)
        self.assertEqual(self.seen(desk), before)
        return own


class TestInterface(unittest.TestCase):
    def test_names_and_arguments(self):
        self.assertEqual(Desk.__module__, "sixthrows.desks")
        self.assertIs(vars(module)["Desk"], Desk)
        self.assertEqual(list(inspect.signature(Desk).parameters), [])
        self.assertEqual(list(inspect.signature(vars(Desk)["order"]).parameters), ["self", "text"])
        self.assertEqual(Desk().order(text="rules"), "letters ab")


class TestOrders(Checks, unittest.TestCase):
    def test_at_the_beginning(self):
        self.check_answers(Desk(), (
            ("rules", "letters ab"), ("short", "short"), ("lots", "-"), ("divisors", "2"), ("nothing", "nothing"),
            ("order", "1"), ("same -", "same"), ("same a", "apart"), ("round", "none"), ("root", "- 0"),
        ))
        self.assert_raises("NothingToUndo", Desk().order, "undo")
        self.assert_raises("NoIndex", Desk().order, "drop 0")

    def test_the_example_of_the_document(self):
        self.check_answers(Desk(), (
            ("tell abABabABabABabAB", "rows 1"), ("rules", "letters ab\nabABabABabABabAB is nothing"), ("short",
            "short"),
            ("row BAbaBAbaBAbaBAba", "row BAbaBAbaBAbaBAba"), ("nothing", "nothing"), ("order", "1"), ("same -",
            "same"),
            ("row abAB", "row abAB"), ("order", "4"), ("nothing", "rest abAB"), ("round", "0 abAB 4"), ("root",
            "abAB 1"),
            ("same BAba", "apart"), ("same abABabABabABabABabAB", "same"), ("divisors", "2"), ("lots", "-"),
            ("row abABabAB", "row abABabAB"), ("root", "abAB 2"), ("order", "2"),
        ))

    def test_letters(self):
        desk = Desk()
        self.check_answers(desk, (
            ("tell a7", "rows 1"), ("row ab", "row ab"), ("letters wxyz", "letters 4"), ("rules", "letters wxyz"),
            ("root", "- 0"), ("divisors", "4"), ("tell w2", "rows 1"), ("row Z3", "row Z3"), ("order", "never"),
            ("letters a", "letters 1"), ("rules", "letters a"), ("root", "- 0"), ("letters a", "letters 1"),
            ("letters bcd", "letters 3"), ("row bcd", "row bcd"), ("tell B2", "rows 1"), ("rules",
            "letters bcd\nB2 is nothing"),
        ))

    def test_tell_and_drop(self):
        self.check_answers(Desk(), (
            ("tell a4", "rows 1"), ("tell b3", "rows 2"), ("rules", "letters ab\na4 is nothing\nb3 is nothing"),
            ("row abABBa", "row abAB2a"), ("round", "0 a 4\n1 b 3"), ("drop 0", "rows 1"), ("round", "0 b 3"),
            ("rules", "letters ab\nb3 is nothing"), ("root", "abAB2a 1"), ("drop 0", "rows 0"), ("round", "none"),
            ("tell aabAB", "rows 1"), ("tell ab2", "rows 2"), ("rules", "letters ab\na2bAB is nothing\nab2 is nothing"),
            ("drop 1", "rows 1"), ("rules", "letters ab\na2bAB is nothing"),
        ))

    def test_six_rows(self):
        desk = Desk()
        for many, row in enumerate(("a", "b", "ab", "aB", "a2b", "a3b")):
            self.assertEqual(desk.order("tell " + row), f"rows {many + 1}")
        for row in ("a4b", "a", "-", "aA"):
            self.assertEqual(self.check_refused(desk, "NoRows", "tell " + row).index, 6)
        self.check_refused(desk, "NoRow", "tell c")
        self.assertEqual(desk.order("drop 5"), "rows 5")
        self.assertEqual(desk.order("tell a5b"), "rows 6")

    def test_row(self):
        self.check_answers(Desk(), (
            ("row aA", "row -"), ("row -", "row -"), ("row aab", "row a2b"), ("row a2b", "row a2b"), ("row a2a",
            "row a3"),
            ("row bAaB", "row -"), ("row a300", "row a300"), ("root", "a 300"), ("row a299b", "row a299b"),
            ("row a150A150", "row -"), ("root", "- 0"), ("row baB", "row baB"), ("row ba2B", "row ba2B"), ("root",
            "baB 2"),
            ("row b2a3B2", "row b2a3B2"), ("root", "b2aB2 3"), ("row a10b10", "row a10b10"),
        ))
        row = "ab" * 150
        self.check_answers(Desk(), (("row " + row, "row " + row), ("root", "ab 150")))

    def test_short_and_lots(self):
        self.check_answers(Desk(), (
            ("tell a2b", "rows 1"), ("short", "0 0 1"), ("lots", "0"), ("tell abAB", "rows 2"), ("tell b", "rows 3"),
            ("short", "0 0 1\n0 1 2\n0 2 1\n1 1 1\n1 2 1"), ("lots", "0 1"), ("drop 0", "rows 2"), ("lots", "0"),
            ("letters ab", "letters 2"), ("tell a", "rows 1"), ("tell ab", "rows 2"), ("short", "0 1 1"), ("lots",
            "0\n1"),
            ("tell b7", "rows 3"), ("short", "0 1 1\n1 2 1"), ("lots", "0 2\n1"),
        ))

    def test_divisors(self):
        self.check_answers(Desk(), (
            ("tell a4", "rows 1"), ("divisors", "1 4"), ("tell b6", "rows 2"), ("divisors", "0 2 12"),
            ("letters abc", "letters 3"), ("divisors", "3"), ("tell a4", "rows 1"), ("tell b2", "rows 2"),
            ("divisors", "1 2 4"), ("tell abAB", "rows 3"), ("divisors", "1 2 4"), ("tell c", "rows 4"), ("divisors",
            "0 2 4"),
            ("letters a", "letters 1"), ("tell a", "rows 1"), ("divisors", "0"),
        ))

    def test_same(self):
        desk = laid_out(SURFACE, "abAB")
        self.check_answers(desk, (
            ("same dcDC", "same"), ("same cdCD", "apart"), ("same abABcC", "same"), ("same -", "apart"),
            ("same a300", "apart"),
            ("same aA", "apart"), ("row -", "row -"), ("same abABcdCD", "same"), ("same abABcdCDD2d2", "same"),
        ))

    def test_against_a_list_of_states(self):
        chance = random.Random(220)
        desk, plain = Desk(), Plain()
        seen = {}
        lots = ([], [("a7", "ab"), ("b7", "A2")], [("b2", "a"), ("a40", "b")])
        for turn in range(1500):
            text = self.random_order(chance, chance.choice(lots), plain.states[-1][0].letters(), turn)
            try:
                expected = plain.answer(text)
            except errors.RowError as error:
                expected = type(error).__name__
                own = self.assert_raises(expected, desk.order, text)
                self.assertEqual(vars(own), {"index": error.index} if expected == "NoRows" else {})
            else:
                self.assertEqual(desk.order(text), expected, text)
                expected = "answered"
            kind = (text.split(" ")[0], expected)
            seen[kind] = seen.get(kind, 0) + 1
        for word in QUESTIONS + ("same", "undo", "letters", "tell", "drop", "row"):
            self.assertGreater(seen.get((word, "answered"), 0), 10, (word, seen))
        for kind in [(word, "NotShort") for word in FOR_SHORT + ("same",)] + [
            ("tell", "NoRows"), ("tell", "NoRow"), ("row", "NoRow"), ("same", "NoRow"), ("drop", "NoIndex"),
            ("letters", "NoOrder"), ("drop", "NoOrder"), ("row", "NoOrder"),
        ]:
            self.assertGreater(seen.get(kind, 0), 3, (kind, seen))

    def random_order(self, chance, lot, letters, turn):
        if turn % 40 == 0:
            return "letters " + chance.choice(("a", "ab", "ac", "abc", "abcd", "ba", "A", ""))
        word = chance.choice(QUESTIONS + ("same", "undo") + ("tell", "drop", "row", "row") * 2)
        if word in QUESTIONS or word == "undo":
            return word + (" " if chance.random() < 0.02 else "")
        if word == "drop":
            return "drop " + chance.choice(("0", "0", "1", "5", "01", "99", "100", "", "-1"))
        if lot and chance.random() < 0.3:
            return f"{word} {chance.choice(chance.choice(lot))}"
        row = random_row(chance, chance.choice((letters, letters, letters, "z")), chance.choice((0, 1, 2, 5, 20, 40)))
        return f"{word} {chance.choice((row_text(row), row_text(row), row, row * 3, row + '01'))}"

    def test_all_short_rules(self):
        chance = random.Random(221)
        for rules in SHORT:
            desk = laid_out(rules)
            self.assertEqual(desk.order("rules"), rules_text(rules))
            self.assertEqual(desk.order("short"), "short")
            for size in (0, 3, 20, 300):
                row = random_row(chance, rules.letters(), size)
                self.assertEqual(desk.order("row " + row_text(row)), "row " + row_text(row))
                left = rest(rules, row)
                self.assertEqual(desk.order("nothing"), f"rest {row_text(left)}" if left else "nothing")
                self.assertEqual(desk.order("order"), str(order(rules, row) or "never"))
                self.assertEqual(desk.order("same " + row_text(left)), "same")
            for told in rules.rows():
                desk.order("row " + told)
                self.assertEqual(desk.order("nothing"), "nothing")

    def test_as_a_live_row(self):
        live = Live(DOC)
        live.lay("aabABA" * 2)
        desk = laid_out(DOC, "aabABA" * 2)
        self.check_answers(desk, (
            ("order", str(live.order())), ("nothing", "rest " + row_text(live.rest())),
            ("rules", rules_text(live.rules)),
            ("row " + live.least, "row " + row_text(live.least)),
        ))


class TestUndo(Checks, unittest.TestCase):
    def test_each_order_that_changes_something(self):
        desk = laid_out(Rules("ab", ("a" * 7, "b" * 8)), "abab")
        for text in (
            "letters ab", "letters xyz", "tell abABabAB", "tell ab", "drop 0", "drop 1", "row ab", "row -", "row aA",
            "row abab",
        ):
            before = self.seen(desk)
            with self.subTest(text=text):
                desk.order(text)
                self.assertEqual(desk.order("undo"), "undone")
                self.assertEqual(self.seen(desk), before)
        self.assertEqual(before[0], "letters ab\na7 is nothing\nb8 is nothing")

    def test_letters_bring_rules_and_row_back(self):
        self.check_answers(Desk(), (
            ("tell a7", "rows 1"), ("row a2", "row a2"), ("letters xy", "letters 2"), ("row xy", "row xy"),
            ("undo", "undone"), ("root", "- 0"), ("undo", "undone"), ("rules", "letters ab\na7 is nothing"), ("root",
            "a 2"),
            ("undo", "undone"), ("root", "- 0"), ("undo", "undone"), ("rules", "letters ab"),
        ))

    def test_orders_that_ask_are_not_taken_back(self):
        desk = Desk()
        for text in QUESTIONS + ("same ab", "same -"):
            desk.order(text)
            self.assert_raises("NothingToUndo", desk.order, "undo")
        desk.order("row ab")
        for text in QUESTIONS + ("same ab", "same -"):
            desk.order(text)
        for text in ("row c", "tell aA", "drop 0", "wrong", "letters ba"):
            with self.assertRaises(errors.RowError):
                desk.order(text)
        self.assertEqual(desk.order("undo"), "undone")
        self.assertEqual(desk.order("root"), "- 0")
        self.assert_raises("NothingToUndo", desk.order, "undo")

    def test_orders_that_change_nothing_count(self):
        desk = Desk()
        for text in ("letters ab", "row -", "row aA", "row -"):
            desk.order(text)
        for _ in range(4):
            self.assertEqual(desk.order("undo"), "undone")
        self.assert_raises("NothingToUndo", desk.order, "undo")

    def test_back_to_the_beginning_and_once_more(self):
        desk = Desk()
        orders = ["tell a7", "row ab", "letters abc", "tell abc", "row c2", "drop 0", "row aA"]
        for _ in range(3):
            states = []
            for text in orders:
                states.append(self.seen(desk))
                desk.order(text)
            for before in reversed(states):
                self.assertEqual(desk.order("undo"), "undone")
                self.assertEqual(self.seen(desk), before)
            self.check_refused(desk, "NothingToUndo", "undo")
            orders.reverse()
            orders = [text for text in orders if text not in ("drop 0", "tell abc", "row c2")]

    def test_three_hundred_and_eighty_orders(self):
        desk = Desk()
        for at in range(189):
            desk.order(f"row a{at + 2}")
        desk.order("tell b3")
        for at in reversed(range(189)):
            desk.order("undo")
            self.assertEqual(desk.order("root"), f"a {at + 2}")
            self.assertEqual(desk.order("rules"), "letters ab")
        desk.order("undo")
        self.assert_raises("NothingToUndo", desk.order, "undo")

    def test_two_side_by_side(self):
        one, two = Desk(), Desk()
        one.order("tell a7")
        two.order("letters xy")
        one.order("row a")
        two.order("row x2")
        self.assertEqual((one.order("root"), two.order("root")), ("a 1", "x 2"))
        self.assertEqual((one.order("rules"), two.order("rules")), ("letters ab\na7 is nothing", "letters xy"))
        one.order("undo")
        self.assertEqual((one.order("root"), two.order("root")), ("- 0", "x 2"))
        one.order("undo")
        self.assert_raises("NothingToUndo", one.order, "undo")
        two.order("undo")
        two.order("undo")
        self.assertEqual(self.seen(one), self.seen(two))
        self.assertEqual(self.seen(one), self.seen(Desk()))


class TestRefused(Checks, unittest.TestCase):
    def desks(self):
        return Desk(), laid_out(DOC, "ab"), laid_out(NOT_SHORT[0], "ab"), laid_out(SURFACE, "cdCD")

    def test_no_order(self):
        for text in NOT_STRINGS + (
            "", " ", "\n", "-", "a", "ab", "2", "order ", " order", "order\n", "\norder", "order 1", "ORDER", "Order",
            "orders", "ord",
            "rules ", "rules ab", "short ", "short 0", "lots -", "divisors 2", "nothing -", "nothing ab", "round 0",
            "root ab", "root ", "undo ", "undo 1", "undone", "redo", "quit", "help", "rest", "is_nothing", "product",
            "tell", "tell ", "drop", "drop ", "row", "row ", "same", "same ", "letters", "letters ", "row\ta", "row\na",
            "row  a", " row a", "row a ", "row a b", "row a\n", "rows", "rows 1", "row a\nrow b", "same a a",
            "tell a a",
            "Row a", "rowa", "rules\nrules", "undo\nundo", "letters ab\na is nothing", "a is nothing", "sames a",
            "not", "tella",
            "__init__", "order()", "rules,short", "row,a",
        ):
            for desk in self.desks():
                with self.subTest(text=text):
                    self.check_refused(desk, "NoOrder", text)

    def test_letters_that_are_none(self):
        for letters in (
            "", " ", "ba", "aa", "abcde", "A", "aB", "a b", "a,b", "a1", "a2", "-", "1", " ab", "ab ", "ab\n", "abca",
            "\u00e9", "\u0430",
        ):
            for desk in self.desks():
                with self.subTest(letters=letters):
                    self.check_refused(desk, "NoOrder", "letters " + letters)

    def test_rows_that_are_none(self):
        for row in NOT_ROW_TEXTS:
            for word in ("row", "tell", "same"):
                for desk in self.desks():
                    with self.subTest(word=word, row=row):
                        self.check_refused(desk, "NoOrder", f"{word} {row}")

    def test_numbers_of_drop(self):
        for number in (
            "", "-1", "00", "01", "007", "100", "101", "999", "9" * 60, "1.0", "0.", "+1", "a", "0a", " 0", "0 ",
            "0 1", "1_0",
            "\u0661", "\u00b2", "0x1", "-", "0\n",
        ):
            for desk in self.desks():
                with self.subTest(number=number):
                    self.check_refused(desk, "NoOrder", "drop " + number)

    def test_no_index(self):
        for desk in self.desks():
            many = len(desk.order("rules").split("\n")) - 1
            for number in range(100):
                if number >= many:
                    self.assert_raises("NoIndex", desk.order, f"drop {number}")
            for number in (many, many + 1, 10, 99):
                self.check_refused(desk, "NoIndex", f"drop {number}")

    def test_other_letters(self):
        for desk in self.desks()[:3]:
            for row in ("c", "C", "abc", "abC", "z300", "aAzZ", "z300", "Z40", "c2", "cC"):
                for word in ("row", "tell", "same"):
                    with self.subTest(word=word, row=row):
                        self.check_refused(desk, "NoRow", f"{word} {row}")
        self.check_refused(laid_out(Rules("bx")), "NoRow", "row a")

    def test_rows_that_cannot_be_told(self):
        for rules in (Rules("ab"), DOC, NOT_SHORT[0], Rules("ab", ("a", "b"))):
            many = len(rules.rows())
            desk = laid_out(rules, "ab")
            for row in ("-", "aA", "abA", "a2bA", "a41", "a300", "ab" * 21, "ab" * 150, "a20b20a") + rules.rows():
                with self.subTest(rows=rules.rows(), row=row):
                    found = self.check_refused(desk, "NoRows", "tell " + row).index
                    self.assertEqual((found, type(found)), (many, int))
            for told in rules.rows():
                for kin in sorted(plain_kin(told)):
                    self.assertEqual(self.check_refused(desk, "NoRows", "tell " + kin).index, many)

    def test_not_short(self):
        for rules in NOT_SHORT:
            self.assertIs(is_short(rules), False)
            desk = laid_out(rules, rules.letters()[0])
            for text in FOR_SHORT + ("same -", "same " + rules.letters()[0]):
                self.check_refused(desk, "NotShort", text)
            for text in ("rules", "short", "lots", "divisors", "root"):
                self.assertNotEqual(desk.order(text), "")
            desk.order("row -")
            for text in FOR_SHORT + ("same -",):
                self.check_refused(desk, "NotShort", text)

    def test_tell_may_make_overlaps_long(self):
        self.check_answers(Desk(), (
            ("tell a7", "rows 1"), ("round", "0 a 7"), ("tell a", "rows 2"), ("short", "0 1 1"), ("row a7", "row a7"),
        ))

    def test_which_error_comes_first(self):
        desk = laid_out(NOT_SHORT[0], "ab")
        many = 1
        for text, name in (
            ("same c", "NoRow"), ("same c1", "NoOrder"), ("same c301", "NoOrder"), ("same a", "NotShort"),
            ("tell c", "NoRow"), ("tell cC", "NoRow"), ("tell c41", "NoRow"), ("tell c301", "NoOrder"), ("tell aA",
            "NoRows"),
            ("drop 1", "NoIndex"), ("drop 100", "NoOrder"), ("row c", "NoRow"), ("row c301", "NoOrder"),
            ("undo 1", "NoOrder"), ("nothing", "NotShort"), ("order", "NotShort"), ("round", "NotShort"),
        ):
            with self.subTest(text=text):
                own = self.check_refused(desk, name, text)
                self.assertEqual(getattr(own, "index", many), many)
        full = Desk()
        for row in ("a", "b", "ab", "aB", "a2b", "a3b"):
            full.order("tell " + row)
        for text, name in (("tell c", "NoRow"), ("tell a301", "NoOrder"), ("tell a4b", "NoRows")):
            self.check_refused(full, name, text)

    def test_six_thousand_characters(self):
        for text in (
            "a" * 6000, "row " + "a" * 5996, "row " + "a300" * 1499, "letters " + "a" * 5992, "tell " + "ab" * 2997,
            "drop " + "9" * 60, "\n" * 6000, "rules" * 1200,
        ):
            self.check_refused(laid_out(DOC, "ab"), "NoOrder", text)


if __name__ == "__main__":
    unittest.main()
