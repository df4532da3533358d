import inspect
import random
import unittest

from sixthrows import live as module
from sixthrows.errors import RowError
from sixthrows.live import Live
from sixthrows.nothing import is_nothing, is_product, order, product, same
from sixthrows.overlaps import is_short
from sixthrows.rules import Rules
from tests.samples import (
    DOC, NOT_INTEGERS, NOT_ROWS, NOT_SHORT, POWERS, SHORT, SURFACE, Raising, Syllables, free_rows, is_free, plain_back,
    plain_kin, random_row, reduced,
)

CHANGES = ("lay", "take", "turn", "tell", "drop")


class Plain:
    """What a live row has to be: the rules and the least row after each call that stands."""

    def __init__(self, letters, rows):
        self.states = [(letters, rows, "")]

    def change(self, name, value):
        """Note a call that raises no error; the answer that is due."""
        letters, rows, row = self.states[-1]
        answer = None
        if name == "undo":
            self.states.pop()
            return None
        if name == "lay":
            row = reduced(row + value)
        if name == "take":
            answer, row = row[-1:], row[:len(row) - 1] if row else ""
        if name == "turn":
            row = reduced(row[1:] + row[:1])
        if name == "tell":
            rows = rows + (value,)
        if name == "drop":
            rows = rows[:value] + rows[value + 1:]
        self.states.append((letters, rows, row))
        return answer


def call(live, name, value):
    """Call a method, with a value where it takes one."""
    return getattr(live, name)(*([value] if name in ("lay", "tell", "drop") else []))


def random_call(chance, live):
    """The name and the value of a call that may be due an error."""
    letters = live.rules.letters()
    name = chance.choice(("lay", "lay", "lay", "take", "turn", "turn", "tell", "drop", "undo"))
    if name == "lay":
        told = live.rules.rows() + (random_row(chance, letters, chance.randrange(12)), plain_back(live.least[-3:]))
        return name, chance.choice(told) + "".join(chance.choice(letters + letters.upper()) for _ in range(2))
    if name == "tell":
        return name, chance.choice([letters[0] * 7, letters[-1].upper() * 9, random_row(chance, letters, 39), "aA"])
    return name, chance.randrange(3)


class Checks(Raising):
    def check(self, live, plain):
        """Hold a live row against what is due, and against the functions for rules and rows."""
        letters, rows, row = plain.states[-1]
        rules = Rules(letters, rows)
        self.assertEqual(live.least, row)
        self.assertIs(type(live.least), str)
        self.assertEqual(live.rules, rules)
        self.assertIs(type(live.rules), Rules)
        self.assertEqual(len(live), len(plain.states) - 1)
        self.assertIs(live.is_nothing(), is_nothing(rules, row))
        self.assertEqual(live.order(), order(rules, row))
        found = live.rest()
        self.assertIs(type(found), str)
        self.assertTrue(is_free(found))
        self.assertLessEqual(len(found), len(row))
        self.assertEqual(found == "", is_nothing(rules, row))
        self.assertIs(is_product(rules, row + plain_back(found), product(rules, row + plain_back(found))), True)
        for told in rows:
            for kin in plain_kin(told):
                self.assertNotIn(kin[:len(kin) // 2 + 1], found)
        for other in [row, found, "", letters[0], row + letters[-1], plain_back(row)] + list(rows[:1]):
            self.assertIs(other in live, same(rules, row, other))
            self.assertIs(other not in live, not same(rules, row, other))

    def check_unchanged(self, live, wrong):
        """Check that a call with a wrong value changes nothing."""
        before = (live.least, live.rules, len(live), live.rest(), live.order())
        wrong()
        self.assertEqual((live.least, live.rules, len(live), live.rest(), live.order()), before)


class TestInterface(unittest.TestCase):
    def test_names_and_arguments(self):
        self.assertEqual(Live.__module__, "sixthrows.live")
        self.assertIs(vars(module)["Live"], Live)
        for name, arguments in (
            ("__init__", ["self", "rules"]), ("lay", ["self", "row"]), ("take", ["self"]), ("turn", ["self"]),
            ("tell", ["self", "row"]), ("drop", ["self", "index"]), ("undo", ["self"]), ("is_nothing", ["self"]),
            ("rest", ["self"]), ("order", ["self"]),
        ):
            with self.subTest(name=name):
                found = inspect.signature(vars(Live)[name]).parameters
                self.assertEqual(list(found), arguments)
        for name in ("__len__", "__contains__"):
            self.assertIn(name, vars(Live))
        for name in ("least", "rules"):
            self.assertIs(type(vars(Live)[name]), property)

    def test_arguments_by_name(self):
        live = Live(rules=Rules("ab"))
        live.lay(row="aab")
        live.tell(row="aaaaaaa")
        live.drop(index=0)
        self.assertEqual((live.least, live.rules, len(live)), ("aab", Rules("ab"), 3))

    def test_what_is_returned(self):
        live = Live(Rules("ab"))
        self.assertIsNone(live.lay("ab"))
        self.assertIsNone(live.turn())
        self.assertIsNone(live.tell("aaaaaaa"))
        self.assertIsNone(live.drop(0))
        self.assertIsNone(live.undo())
        self.assertEqual(live.take(), "a")


class TestCalls(Checks, unittest.TestCase):
    def test_empty(self):
        for rules in SHORT:
            live = Live(rules)
            self.assertEqual((live.least, live.rules, len(live)), ("", rules, 0))
            self.assertIs(live.is_nothing(), True)
            self.assertEqual((live.rest(), live.order()), ("", 1))
            self.assertIs("" in live, True)
            self.assertIs(rules.letters()[0] + rules.letters()[0].upper() in live, True)
            self.assert_raises("NothingToUndo", live.undo)
            self.assertEqual(len(live), 0)

    def test_lay(self):
        live = Live(DOC)
        for row, expected in (
            ("ab", "ab"), ("AB", "abAB"), ("", "abAB"), ("baB", "a"), ("bbaA", "abb"), ("BBA", ""), ("aAb", "b"),
        ):
            live.lay(row)
            self.assertEqual(live.least, expected)
        self.assertEqual(len(live), 7)

    def test_take(self):
        live = Live(Rules("ab"))
        self.assertEqual(live.take(), "")
        self.assertEqual((live.least, len(live)), ("", 1))
        live.lay("abAaB")
        self.assertEqual(live.least, "a")
        live.lay("bA")
        for expected in ("A", "b", "a", "", ""):
            self.assertEqual(live.take(), expected)
        self.assertEqual((live.least, len(live)), ("", 8))

    def test_turn(self):
        live = Live(Rules("ab"))
        live.turn()
        self.assertEqual((live.least, len(live)), ("", 1))
        live.lay("aab")
        for expected in ("aba", "baa", "aab"):
            live.turn()
            self.assertEqual(live.least, expected)
        live.lay("ABBAA")
        self.assertEqual(live.least, "aabABBAA")
        for expected in ("abABBA", "bABB", "AB", "BA", "AB"):
            live.turn()
            self.assertEqual(live.least, expected)
        live.lay("b")
        live.turn()
        self.assertEqual(live.least, "A")
        live.turn()
        self.assertEqual(live.least, "A")

    def test_tell_and_drop(self):
        live = Live(Rules("ab"))
        live.lay("aaaaaaa")
        self.assertIs(live.is_nothing(), False)
        self.assertIsNone(live.order())
        live.tell("a" * 14)
        self.assertEqual((live.is_nothing(), live.order()), (False, 2))
        live.drop(0)
        live.tell("A" * 7)
        self.assertEqual((live.is_nothing(), live.order(), live.rest()), (True, 1, ""))
        live.tell("abAB" * 2)
        live.tell("b" * 7)
        self.assertEqual(live.rules, Rules("ab", ("A" * 7, "abAB" * 2, "b" * 7)))
        live.drop(1)
        self.assertEqual(live.rules, Rules("ab", ("A" * 7, "b" * 7)))
        live.drop(0)
        self.assertEqual(live.rules, Rules("ab", ("b" * 7,)))
        self.assertIs(live.is_nothing(), False)
        self.assertEqual(live.least, "aaaaaaa")
        self.assertEqual(len(live), 8)

    def test_in(self):
        live = Live(DOC)
        live.lay("abABabAB")
        for row in ("abABabAB", "baBAbaBA", "abABabABaA", "abABabAB" + "bABa" * 4, "abAB" * 6):
            self.assertIs(row in live, True)
        for row in ("", "abAB", "baBA", "a", "abABabABa", "b" * 300):
            self.assertIs(row in live, False)
        for value in NOT_ROWS + ("c", "abABabABcC", "abABabABC", ("abABabAB",), ["abABabAB"], Ellipsis):
            with self.subTest(value=value):
                self.assertIs(value in live, False)
                self.assertIs(value not in live, True)
        self.assertEqual(len(live), 1)

    def test_in_by_listing_rows(self):
        for rules in (Rules("ab", ("aaaa", "bbb")), DOC, Rules("ab", ("aB",)), SURFACE):
            live = Live(rules)
            live.lay(rules.letters()[:2])
            for row in free_rows(rules.letters(), 3):
                self.assertIs(row in live, same(rules, row, rules.letters()[:2]))

    def test_powers_of_letters(self):
        chance = random.Random(180)
        for rules in POWERS:
            plain = Syllables(rules)
            live = Live(rules)
            row = ""
            for _ in range(12):
                more = random_row(chance, rules.letters(), chance.randrange(6))
                row += more
                live.lay(more)
                self.assertEqual(live.least, reduced(row))
                self.assertIs(live.is_nothing(), plain.normal(row) == ())
                self.assertEqual(live.order(), plain.order(row))
                self.assertEqual(plain.normal(live.rest()), plain.normal(row))
                other = random_row(chance, rules.letters(), 3)
                self.assertIs(other in live, plain.normal(other) == plain.normal(row))

    def test_against_a_list_of_states(self):
        chance = random.Random(181)
        seen = dict.fromkeys(CHANGES + ("undo", "wrong"), 0)
        for turn in range(40):
            rules = SHORT[turn % len(SHORT)]
            live, plain = Live(rules), Plain(rules.letters(), rules.rows())
            for _ in range(25):
                name, value = random_call(chance, live)
                try:
                    answer = call(live, name, value)
                except RowError:
                    seen["wrong"] += 1
                else:
                    seen[name] += 1
                    self.assertEqual(answer, plain.change(name, value))
                self.check(live, plain)
        self.assertGreater(min(seen.values()), 20, seen)

    def test_three_hundred_characters(self):
        chance = random.Random(182)
        for rules in (DOC, SURFACE, Rules("ab", ("a" * 7, "b" * 7, "abAB" * 2)), Rules("a", ("aaaaa",))):
            live, plain = Live(rules), Plain(rules.letters(), rules.rows())
            for row in (random_row(chance, rules.letters(), 300), rules.letters() * (300 // len(rules.letters()))):
                live.lay(row)
                plain.change("lay", row)
                self.check(live, plain)
            live.turn()
            plain.change("turn", None)
            self.check(live, plain)


class TestUndo(Checks, unittest.TestCase):
    def test_each_kind_of_call(self):
        live = Live(Rules("ab", ("abAB" * 2,)))
        live.lay("abABab")
        for name, value in (
            ("lay", "BB"), ("lay", "BAb"), ("take", None), ("turn", None), ("tell", "a" * 7), ("drop", 0),
        ):
            before = (live.least, live.rules, len(live), live.rest(), live.order())
            call(live, name, value)
            self.assertEqual(len(live), 2)
            self.assertNotEqual((live.least, live.rules), before[:2])
            live.undo()
            self.assertEqual((live.least, live.rules, len(live), live.rest(), live.order()), before)

    def test_calls_that_changed_nothing(self):
        live = Live(Rules("ab"))
        for name, value in (("lay", ""), ("take", None), ("turn", None), ("lay", "aA"), ("lay", "")):
            call(live, name, value)
            self.assertEqual(live.least, "")
        self.assertEqual(len(live), 5)
        live.lay("a")
        live.turn()
        self.assertEqual((live.least, len(live)), ("a", 7))
        for left in (6, 5, 4, 3, 2, 1, 0):
            live.undo()
            self.assertEqual((live.least, len(live)), ("a" if left == 6 else "", left))
        self.assert_raises("NothingToUndo", live.undo)

    def test_calls_that_raised_are_not_taken_back(self):
        live = Live(Rules("ab", ("a" * 7,)))
        live.lay("ab")
        for name, value in (("lay", "c"), ("tell", "aa"), ("tell", 1), ("drop", 1), ("drop", None)):
            with self.assertRaises(RowError):
                call(live, name, value)
        self.assertEqual(len(live), 1)
        live.undo()
        self.assertEqual((live.least, len(live), live.rules), ("", 0, Rules("ab", ("a" * 7,))))
        self.assert_raises("NothingToUndo", live.undo)

    def test_back_to_the_beginning_and_once_more(self):
        chance = random.Random(183)
        for rules in (DOC, SURFACE, Rules("ab"), Rules("ab", ("a" * 7, "b" * 7))):
            live, plain = Live(rules), Plain(rules.letters(), rules.rows())
            for _ in range(2):
                for _ in range(30):
                    name, value = random_call(chance, live)
                    if name != "undo":
                        try:
                            answer = call(live, name, value)
                        except RowError:
                            continue
                        self.assertEqual(answer, plain.change(name, value))
                while len(live) > 0:
                    self.check(live, plain)
                    live.undo()
                    plain.change("undo", None)
                self.check(live, plain)
                self.assertEqual((live.least, live.rules), ("", rules))
                self.assert_raises("NothingToUndo", live.undo)
                self.check(live, plain)

    def test_go_on_behind_an_undo(self):
        live = Live(Rules("ab"))
        live.lay("a")
        live.lay("b")
        live.undo()
        live.lay("B")
        self.assertEqual((live.least, len(live)), ("aB", 2))
        live.undo()
        self.assertEqual(live.least, "a")
        live.undo()
        self.assertEqual(live.least, "")

    def test_three_hundred_and_eighty_calls(self):
        chance = random.Random(184)
        live, plain = Live(Rules("ab")), Plain("ab", ())
        calls = 0
        while calls < 380:
            name, value = random_call(chance, live)
            try:
                answer = call(live, name, value)
            except RowError:
                continue
            calls += 1
            self.assertEqual(answer, plain.change(name, value))
            if calls % 20 == 0:
                self.check(live, plain)
        while len(live):
            live.undo()
            plain.change("undo", None)
        self.check(live, plain)

    def test_a_row_that_gets_very_long(self):
        live = Live(DOC)
        for _ in range(189):
            live.lay("aab" * 100)
        self.assertEqual(live.least, "aab" * 18900)
        self.assertEqual(live.rest(), live.least)
        self.assertIsNone(live.order())
        self.assertIs(live.least in live, True)
        self.assertIs(live.least + "a" in live, False)
        live.lay("BAA" * 100)
        self.assertEqual(live.least, "aab" * 18800)
        live.turn()
        self.assertEqual(live.least, "aba" * 18800)
        for _ in range(189):
            live.undo()
        self.assertEqual((live.least, len(live)), ("aab" * 200, 2))


class TestWrong(Checks, unittest.TestCase):
    def test_not_short(self):
        for rules in NOT_SHORT:
            self.assert_raises("NotShort", Live, rules)
            self.assert_raises("NotShort", Live, rules=rules)

    def test_lay(self):
        for letters, more in (("ab", ("c", "abC", "abz", "Z")), ("bx", ("a", "A", "bxa"))):
            live = Live(Rules(letters, (letters * 7,)))
            live.lay(letters)
            for value in NOT_ROWS + more:
                with self.subTest(value=value):
                    self.check_unchanged(live, lambda: self.assert_raises("NoRow", live.lay, value))
                    self.check_unchanged(live, lambda: self.assert_raises("NoRow", live.lay, row=value))

    def test_tell_a_row_that_cannot_stand(self):
        for rules in (Rules("ab"), Rules("ab", ("b" * 7,)), Rules("ab", ("b" * 7, "abABabAB"))):
            live = Live(rules)
            live.lay("ab")
            many = len(rules.rows())
            for value in NOT_ROWS + ("", "aA", "abA", "c", "abC", "a" * 41, "ab" * 150) + rules.rows() + tuple(
                kin for row in rules.rows() for kin in plain_kin(row)
            ):
                with self.subTest(rows=rules.rows(), value=value):
                    self.check_unchanged(live, lambda: self.assert_no_rows(many, live.tell, value))
                    self.check_unchanged(live, lambda: self.assert_no_rows(many, live.tell, row=value))

    def test_tell_a_seventh_row(self):
        rows = ("a", "b", "c")
        live = Live(Rules("abcd", rows))
        live.tell("d")
        self.assertEqual(live.rules.rows(), rows + ("d",))
        seven = (
            "bdaDDBcbAdCCBBAdcadBdABCdabbDDaccabDCCab", "caDcBadACbdABddBcDBcADDbCAAdBBcdaaBCaDBc",
            "aacbbDCBDAbbcAcDaBBdccABAAcBddbCdABBCDad", "a" * 19, "b" * 20, "c" * 21, "d" * 22,
        )
        live = Live(Rules("abcd"))
        for row in seven[:6]:
            live.tell(row)
        self.assertEqual(live.rules.rows(), seven[:6])
        for row in seven[6:] + ("a", "", None, 3, "abA", seven[0]):
            self.check_unchanged(live, lambda: self.assert_no_rows(6, live.tell, row))
        live.drop(5)
        live.tell(seven[6])
        self.assertEqual(live.rules.rows(), seven[:5] + seven[6:])

    def test_tell_a_row_with_long_overlaps(self):
        for rules, rows in (
            (Rules("ab"), ("abAB", "aab", "abABab")), (Rules("ab", ("a" * 6,)), ("abAB" * 2, "b" * 6 + "a", "a", "aa")),
            (DOC, ("a", "ab", "aaa", "abAB", "abABabAB")), (SURFACE, ("a", "ab", "dddddd" + "c", "cdCDabABc")),
        ):
            live = Live(rules)
            live.lay(rules.letters())
            for row in rows:
                with self.subTest(rows=rules.rows(), row=row):
                    self.assertIs(is_short(Rules(rules.letters(), rules.rows() + (row,))), False)
                    self.check_unchanged(live, lambda: self.assert_raises("NotShort", live.tell, row))
            live.undo()
            self.assert_raises("NothingToUndo", live.undo)

    def test_a_row_that_cannot_stand_comes_first(self):
        live = Live(DOC)
        # Whatever their overlaps are.
        for row in ("abA", "bABabABabABabABa", "c", "aab" * 14, "BAbaBAbaBAbaBAba"):
            self.assert_no_rows(1, live.tell, row)

    def test_drop(self):
        for rules in (Rules("ab"), DOC, Rules("ab", ("aaaa", "bbb")), Rules("abc", ("a", "b", "c"))):
            live = Live(rules)
            live.lay("ab")
            many = len(rules.rows())
            for value in NOT_INTEGERS + (many, many + 1, -1, -many - 1, 6, 99, 10 ** 59, -10 ** 59):
                with self.subTest(rows=rules.rows(), value=value):
                    self.check_unchanged(live, lambda: self.assert_raises("NoIndex", live.drop, value))
                    self.check_unchanged(live, lambda: self.assert_raises("NoIndex", live.drop, index=value))

    def test_undo_of_nothing(self):
        live = Live(DOC)
        for _ in range(3):
            self.assert_raises("NothingToUndo", live.undo)
        live.lay("a")
        live.undo()
        self.assert_raises("NothingToUndo", live.undo)
        self.assertEqual((live.least, live.rules, len(live)), ("", DOC, 0))


class TestApart(Checks, unittest.TestCase):
    def test_two_side_by_side(self):
        rules = Rules("ab", ("a" * 7,))
        one, two = Live(rules), Live(rules)
        one.lay("ab")
        two.lay("b" * 7)
        two.tell("b" * 7)
        one.drop(0)
        self.assertEqual((one.least, one.rules, len(one)), ("ab", Rules("ab"), 2))
        self.assertEqual((two.least, two.rules, len(two)), ("b" * 7, Rules("ab", ("a" * 7, "b" * 7)), 2))
        self.assertEqual(rules, Rules("ab", ("a" * 7,)))
        one.undo()
        self.assertEqual(len(two), 2)
        self.assertIs(two.is_nothing(), True)
        self.assertIs(one.is_nothing(), False)

    def test_reading_changes_nothing(self):
        live = Live(DOC)
        live.lay("aabABA")
        left = live.rest()
        for _ in range(3):
            self.assertEqual((live.least, live.order(), live.is_nothing(), len(live)), ("aabABA", 4, False, 1))
            self.assertIs("a" in live, False)
            self.assertEqual((live.rules, live.rest()), (DOC, left))


if __name__ == "__main__":
    unittest.main()
