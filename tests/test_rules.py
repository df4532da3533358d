import inspect
import unittest
from itertools import combinations
from unittest import mock

from sixthrows import rules as module
from sixthrows.free import back
from sixthrows.rules import Rules
from tests.samples import NOT_INTEGERS, NOT_ROWS, NOT_STRINGS, Raising, all_rows, is_free, turned

ALPHABET = "abcdefghijklmnopqrstuvwxyz"
SIX = ("a", "b", "c", "ab", "aB", "ac")


class TestInterface(unittest.TestCase):
    def test_names_and_arguments(self):
        self.assertEqual(Rules.__module__, "sixthrows.rules")
        self.assertIs(module.Rules, Rules)
        for name, arguments in (
            ("__init__", ["self", "letters", "rows"]), ("letters", ["self"]), ("rows", ["self"]),
            ("without", ["self", "index"]), ("__eq__", ["self", "other"]),
        ):
            with self.subTest(name=name):
                self.assertIn(name, vars(Rules))
                found = inspect.signature(vars(Rules)[name]).parameters
                self.assertEqual(list(found), arguments)

    def test_arguments_by_name(self):
        rules = Rules(rows=("ab",), letters="ab")
        self.assertEqual((rules.letters(), rules.rows()), ("ab", ("ab",)))
        self.assertEqual(rules.without(index=0).rows(), ())
        self.assertEqual(Rules(letters="ab").rows(), ())


class TestLetters(Raising, unittest.TestCase):
    def test_each_letter(self):
        for letter in ALPHABET:
            self.assertEqual(Rules(letter).letters(), letter)
            self.assert_raises("NoLetters", Rules, letter.upper())

    def test_ascending_letters(self):
        for size in (2, 3, 4):
            for chars in combinations("abmyz", size):
                letters = "".join(chars)
                self.assertEqual(Rules(letters).letters(), letters)
                self.assert_raises("NoLetters", Rules, letters[::-1])

    def test_wrong_letters(self):
        for value in NOT_STRINGS + (
            "", "aa", "ba", "abb", "aab", "acb", "abca", "abdc", "abcde", ALPHABET, "A", "aB", "Ab", "AB",
            "a b", "a,b", " a", "a ", "a\n", "1", "a1", "1a", "-", "`a", "a{", "ab{", "\u00e9", "a\u00e9",
            "\u0430", "\u00aa",
        ):
            with self.subTest(value=value):
                self.assert_raises("NoLetters", Rules, value)
                self.assert_raises("NoLetters", Rules, letters=value, rows=())

    def test_letters_come_before_rows(self):
        for rows in (None, [], "a", ("a", "a"), ("aA",), (1,), True):
            for letters in (None, "", "ba", "abcde", 7, ["a"]):
                with self.subTest(letters=letters, rows=rows):
                    self.assert_raises("NoLetters", Rules, letters, rows)


class TestRows(Raising, unittest.TestCase):
    def test_what_it_was_made_of(self):
        for letters, rows in (
            ("a", ()), ("ab", ("abAB",)), ("ab", ("a", "b", "ab")), ("abc", SIX), ("xyz", ("xyzXYZ", "zzzz", "Xy")),
            ("abcd", ("abABcdCD",)), ("ab", ("A", "B")), ("ab", ("aB", "ab", "aab", "aaB", "abb", "aBB")),
        ):
            with self.subTest(letters=letters, rows=rows):
                rules = Rules(letters, rows)
                self.assertEqual(rules.letters(), letters)
                self.assertIs(type(rules.letters()), str)
                self.assertEqual(rules.rows(), rows)
                self.assertIs(type(rules.rows()), tuple)

    def test_no_rows_by_default(self):
        self.assertEqual(Rules("ab").rows(), ())
        self.assertEqual(Rules("ab"), Rules("ab", ()))

    def test_just_the_ring_rows(self):
        for row in all_rows("ab", 5):
            ring = row != "" and is_free(row) and row[0] != row[-1].swapcase()
            with self.subTest(row=row):
                if ring:
                    self.assertEqual(Rules("ab", (row,)).rows(), (row,))
                else:
                    self.assert_no_rows(0, Rules, "ab", (row,))

    def test_rows_want_a_tuple(self):
        for value in NOT_STRINGS + ("", "ab", "a", ["ab"], [], iter(("ab",))):
            if not isinstance(value, tuple):
                with self.subTest(value=value):
                    self.assert_no_rows(0, Rules, "ab", value)
                    self.assert_no_rows(0, Rules, letters="ab", rows=value)

    def test_items_that_are_no_rows(self):
        for value in NOT_ROWS + ("", "aA", "abA", "abcBA", "abB", "Aba", "bB"):
            for at in (0, 1, 3):
                rows = ["ab", "a", "bc", "abc"]
                rows[at] = value
                with self.subTest(value=value, at=at):
                    self.assert_no_rows(at, Rules, "abc", tuple(rows))
                    self.assert_no_rows(at, Rules, "abc", tuple(rows) + (value, 1))

    def test_other_letters(self):
        for letters, row in (("ab", "c"), ("ab", "C"), ("ab", "abC"), ("bc", "a"), ("a", "ab"), ("ac", "abc")):
            with self.subTest(letters=letters, row=row):
                self.assert_no_rows(0, Rules, letters, (row,))
        self.assert_no_rows(1, Rules, "ab", ("ab", "ac"))

    def test_forty_and_forty_one_characters(self):
        for forty in ("a" * 40, "ab" * 20, "aB" * 20, "abAB" * 10, "A" * 39 + "b"):
            with self.subTest(row=forty):
                self.assertEqual(len(forty), 40)
                self.assertEqual(Rules("ab", (forty,)).rows(), (forty,))
                self.assert_no_rows(0, Rules, "ab", (forty + forty[0],))
                self.assert_no_rows(1, Rules, "ab", ("aab", forty + forty[0]))
        self.assert_no_rows(0, Rules, "ab", ("ab" * 150,))

    def test_six_and_seven_rows(self):
        self.assertEqual(Rules("abc", SIX).rows(), SIX)
        self.assert_no_rows(6, Rules, "abc", SIX + ("bc",))
        self.assert_no_rows(6, Rules, "abc", SIX + ("a",))
        self.assert_no_rows(6, Rules, "abc", SIX + (None,))
        self.assert_no_rows(6, Rules, "abc", SIX + ("bc", None, "bC"))
        self.assert_no_rows(6, Rules, "abc", SIX * 50)
        self.assert_no_rows(2, Rules, "abc", SIX[:2] + (5,) + SIX[2:] + ("bc",))
        self.assert_no_rows(5, Rules, "abc", SIX[:5] + ("ba", "bc"))

    def test_three_hundred_items(self):
        self.assert_no_rows(1, Rules, "ab", ("ab",) * 300)
        self.assert_no_rows(0, Rules, "ab", ("",) * 300)

    def test_earlier_rows_turned_about(self):
        for row in ("a", "B", "ab", "aB", "abAB", "aab", "aabb", "aBabb", "abABaabb", "aabaab", "a" * 40, "ab" * 20):
            for kin in turned(row) + turned(back(row)):
                with self.subTest(row=row, kin=kin):
                    self.assertEqual(Rules("ab", (kin,)).rows(), (kin,))
                    self.assert_no_rows(1, Rules, "ab", (row, kin))
                    self.assert_no_rows(2, Rules, "ab", ("aaaB", row, kin))
                    self.assert_no_rows(2, Rules, "ab", (row, "aaaB", kin))

    def test_unlike_rows_of_one_length(self):
        for one, two in (("abab", "abaB"), ("aabb", "abab"), ("abAB", "aabb"), ("ab", "aB"), ("aab", "abb")):
            with self.subTest(one=one, two=two):
                self.assertEqual(Rules("ab", (one, two)).rows(), (one, two))

    def test_a_row_and_its_powers_stand_together(self):
        rows = ("ab", "abab", "ababab", "a", "aa", "aaa")
        self.assertEqual(Rules("ab", rows).rows(), rows)
        self.assertEqual(Rules("ab", rows[::-1]).rows(), rows[::-1])


class TestWithout(Raising, unittest.TestCase):
    def test_each_row(self):
        rules = Rules("abc", SIX)
        for index in range(6):
            rest = rules.without(index)
            self.assertIs(type(rest), Rules)
            self.assertEqual(rest.letters(), "abc")
            self.assertEqual(rest.rows(), SIX[:index] + SIX[index + 1:])
        self.assertEqual((rules.letters(), rules.rows()), ("abc", SIX))

    def test_down_to_none(self):
        rules = Rules("abcd", ("ab", "cd"))
        self.assertEqual(rules.without(1), Rules("abcd", ("ab",)))
        self.assertEqual(rules.without(0).without(0), Rules("abcd"))

    def test_no_index(self):
        for rules in (Rules("abc", SIX), Rules("abc", ("a", "b")), Rules("abc", ("a",)), Rules("abc")):
            many = len(rules.rows())
            for value in NOT_INTEGERS + (many, many + 1, -1, -many, 6, 7, 99, 10 ** 59, -10 ** 59):
                with self.subTest(many=many, value=value):
                    self.assert_raises("NoIndex", rules.without, value)
                    self.assert_raises("NoIndex", rules.without, index=value)
            self.assertEqual(len(rules.rows()), many)


class TestEqual(unittest.TestCase):
    def test_equal(self):
        for letters, rows in (("a", ()), ("ab", ("abAB",)), ("abc", SIX)):
            one = Rules(letters, rows)
            two = Rules("".join(list(letters)), tuple(list(rows)))
            self.assertIs(one == two, True)
            self.assertIs(one != two, False)
            self.assertIs(one == one, True)

    def test_unlike(self):
        lots = (
            Rules("a"), Rules("b"), Rules("ab"), Rules("abc"), Rules("ab", ("a",)), Rules("abc", ("a",)),
            Rules("ab", ("A",)), Rules("ab", ("a", "b")), Rules("ab", ("b", "a")), Rules("ab", ("ab",)),
            Rules("ab", ("ba",)), Rules("ab", ("aa",)),
        )
        for one, two in combinations(lots, 2):
            with self.subTest(one=(one.letters(), one.rows()), two=(two.letters(), two.rows())):
                self.assertIs(one == two, False)
                self.assertIs(one != two, True)
                self.assertIs(two == one, False)

    def test_equal_to_nothing_else(self):
        rules = Rules("ab", ("ab",))
        for value in NOT_STRINGS + ("ab", ("ab", ("ab",)), ["ab", ("ab",)], Rules):
            with self.subTest(value=value):
                self.assertIs(rules == value, False)
                self.assertIs(value == rules, False)
                self.assertIs(rules != value, True)
        self.assertIs(rules.__eq__(mock.ANY), False)


class TestArgumentsAreLeftAlone(unittest.TestCase):
    def test_wrong_values_are_unchanged(self):
        rows = ["ab", ["a"]]
        for call in (lambda: Rules("ab", rows), lambda: Rules(rows), lambda: Rules("ab", (rows,))):
            with self.assertRaises(ValueError):
                call()
            self.assertEqual(rows, ["ab", ["a"]])


if __name__ == "__main__":
    unittest.main()
