import random
import unittest

from sixthrows import beside
from sixthrows.beside import alike, following, makes, missing_row, shortest, unlike_counts
from sixthrows.rules import Rules
from tests.samples import (
    DOC, NOT_INTEGERS, NOT_ROWS, NOT_SHORT, NOT_STRINGS, POWERS, SHORT, SURFACE, Raising, Syllables, all_rows,
    asserted_signatures, free_rows, nothing_up_to, plain_back, plain_kin, product_row, random_product, reduced,
)

# The longest length, for each number of letters, up to which there are at most 100 free rows.
LENGTHS = {1: 4, 2: 3, 3: 2, 4: 2}
NOT_LENGTHS = NOT_INTEGERS + (-1, 5, 6, -4, 10 ** 59, -10 ** 59)
FEW_LETTERS = (
    Rules("ab", ("aB",)), Rules("ab", ("ab",)), Rules("ab", ("abab",)), Rules("ab", ("ababab",)), DOC, SURFACE,
    Rules("abcd", ("ab", "cd")), Rules("abc", ("aB", "cc")), Rules("ab", ("a" * 7, "b" * 7, "abAB" * 2)),
    Rules("ab", ("ABABAB",)), Rules("abc", ("abc",)), Rules("abc", ("abcabc",)), Rules("abd", ("Bd",)),
)


def listed_classes(rules, length):
    """The free rows up to this length, in lists of those that are the same."""
    listed = nothing_up_to(rules, 2 * length)
    classes = []
    for row in free_rows(rules.letters(), length):
        for rows in classes:
            if reduced(rows[0] + plain_back(row)) in listed:
                rows.append(row)
                break
        else:
            classes.append([row])
    return classes


class TestInterface(unittest.TestCase):
    def test_names_and_arguments(self):
        asserted_signatures(self, beside, {
            "following": ["rules", "rows"], "makes": ["rules", "other"], "missing_row": ["rules", "other"],
            "alike": ["rules", "other"], "unlike_counts": ["rules", "length"], "shortest": ["rules", "row", "length"],
        })


class TestFollowing(Raising, unittest.TestCase):
    def test_examples(self):
        for rules, rows, expected in (
            (DOC, [], []), (DOC, [""], [0]), (DOC, ["a"], []),
            (DOC, ["a", "aA", "abAB" * 4, "abAB", "baBA" * 4, ""], [1, 2, 4, 5]),
            (Rules("ab"), ["a", "bB", "abAB", "abBA"], [1, 3]),
            (Rules("ab", ("a",)), ["a", "b", "bAB", "aa"], [0, 2, 3]),
            (SURFACE, ["abAB", "abABcdCD", "cdCDabAB", "abABdcDC"], [1, 2]), (DOC, ["b"] * 300, []),
            (DOC, ["abAB" * 60] * 300, list(range(300))),
        ):
            with self.subTest(rows=rules.rows(), asked=rows):
                found = following(rules, rows)
                self.assertIs(type(found), list)
                self.assertEqual(found, expected)

    def test_powers_of_letters(self):
        for rules in POWERS:
            plain = Syllables(rules)
            rows = all_rows(rules.letters(), LENGTHS[len(rules.letters())] + 1)
            expected = [index for index, row in enumerate(rows) if plain.normal(row) == ()]
            self.assertEqual(following(rules, rows), expected)

    def test_products(self):
        chance = random.Random(19)
        for rules in SHORT:
            if rules.rows():
                rows = [product_row(rules, random_product(chance, rules, 2, 5)) for _ in range(10)]
                self.assertEqual(following(rules, rows), list(range(10)))

    def test_no_rows(self):
        for rules in (DOC, Rules("ab"), NOT_SHORT[0]):
            for value in NOT_STRINGS + ("", "ab", ("ab", ""), (), iter([])):
                if not isinstance(value, list):
                    with self.subTest(value=value):
                        self.assert_no_rows(0, following, rules, value)
                        self.assert_no_rows(0, following, rules=rules, rows=value)
            for value in NOT_ROWS + ("c", "abC", "Z", ["ab"], ("ab",)):
                for at in (0, 1, 4):
                    rows = ["a", "", "aA", "bab", "B"]
                    rows[at] = value
                    with self.subTest(value=value, at=at):
                        self.assert_no_rows(at, following, rules, rows)
                        self.assert_no_rows(at, following, rules, rows + [value, None])
        self.assert_no_rows(299, following, DOC, ["a"] * 299 + ["c"])

    def test_not_short(self):
        for rules in NOT_SHORT:
            self.assert_raises("NotShort", following, rules, [])
            self.assert_raises("NotShort", following, rules, ["", "a"])


class TestSideBySide(Raising, unittest.TestCase):
    def check(self, rules, other, missing):
        self.assertEqual(missing_row(rules, other), missing)
        self.assertIs(makes(rules, other), missing is None)

    def test_examples(self):
        for rules, other, missing in (
            (DOC, DOC, None), (DOC, Rules("ab"), None), (Rules("ab"), Rules("ab"), None),
            (Rules("ab"), DOC, "abAB" * 4),
            (Rules("ab", ("a",)), Rules("ab", ("aa", "aaa")), None), (Rules("ab", ("aa",)), Rules("ab", ("a",)), "a"),
            (Rules("ab", ("aa",)), Rules("ab", ("aaaa", "aaa", "b")), "aaa"),
            (Rules("ab", ("aaa",)), Rules("ab", ("aaaa", "aaa")), "aaaa"),
            (Rules("ab", ("a",)), DOC, None),
            (Rules("ab", ("a", "b")), Rules("ab", ("abAB", "aab", "bbb", "abba")), None),
            (DOC, Rules("ab", ("abAB",)), "abAB"), (DOC, Rules("ab", ("bABa" * 4, "abAB" * 8)), None),
            (DOC, Rules("ab", ("baBA" * 4, "b")), "b"), (SURFACE, Rules("abcd", ("cdCDabAB", "abAB")), "abAB"),
            (SURFACE, Rules("abcd", ("dcDCbaBA", "abABcdCDabABcdCD")), None),
        ):
            with self.subTest(rules=rules.rows(), other=other.rows()):
                self.check(rules, other, missing)

    def test_other_rules_need_not_be_short(self):
        for other in NOT_SHORT:
            rules = Rules(other.letters(), tuple(other.letters()))
            self.check(rules, other, None)
            self.check(Rules(other.letters()), other, other.rows()[0])

    def test_rules_alike(self):
        for one, two, expected in (
            (DOC, DOC, True), (DOC, Rules("ab"), False), (Rules("ab"), Rules("ab"), True),
            (Rules("ab"), Rules("ab", ("a",)), False),
            (DOC, Rules("ab", ("bABa" * 4,)), True), (DOC, Rules("ab", ("baBA" * 4,)), True),
            (DOC, Rules("ab", ("abAB" * 8,)), False),
            (Rules("ab", ("a", "b")), Rules("ab", ("B", "A")), True),
            (Rules("ab", ("a", "b")), Rules("ab", ("b",)), False),
            (Rules("ab", ("aaaa", "bbb")), Rules("ab", ("bbb", "aaaa")), True),
            (Rules("ab", ("aaaa", "bbb")), Rules("ab", ("aaaa", "bbbb")), False),
            (Rules("ab", ("aB",)), Rules("ab", ("Ab",)), True), (Rules("ab", ("aB",)), Rules("ab", ("ab",)), False),
            (Rules("abc", ("aB", "cc")), Rules("abc", ("CC", "bA")), True),
        ):
            with self.subTest(one=one.rows(), two=two.rows()):
                self.assertIs(alike(one, two), expected)
                self.assertIs(alike(two, one), expected)

    def test_kin_in_another_order(self):
        chance = random.Random(20)
        for rules in SHORT:
            rows = [chance.choice(sorted(plain_kin(row))) for row in rules.rows()]
            chance.shuffle(rows)
            other = Rules(rules.letters(), tuple(rows))
            self.assertIs(alike(rules, other), True)
            self.check(rules, other, None)
            for index, row in enumerate(rows):
                self.assertIs(alike(rules, other.without(index)), False)
                self.check(other.without(index), rules, next(one for one in rules.rows() if row in plain_kin(one)))
                self.check(rules, other.without(index), None)

    def test_no_match(self):
        for one, two in (
            (Rules("ab"), Rules("ac")), (Rules("a"), Rules("b")), (Rules("ab"), Rules("abc")), (DOC, SURFACE),
            (DOC, NOT_SHORT[-1]), (NOT_SHORT[-1], DOC), (Rules("a"), Rules("ab", ("b",))),
            (NOT_SHORT[0], Rules("abc", ("bb", "aac"))),
        ):
            for function in (makes, missing_row, alike):
                with self.subTest(function=function.__name__, one=one.rows(), two=two.rows()):
                    self.assert_raises("NoMatch", function, one, two)
                    self.assert_raises("NoMatch", function, two, one)
                    self.assert_raises("NoMatch", function, other=two, rules=one)

    def test_not_short(self):
        for rules in NOT_SHORT:
            plain = Rules(rules.letters())
            for function in (makes, missing_row, alike):
                self.assert_raises("NotShort", function, rules, plain)
                self.assert_raises("NotShort", function, rules, rules)
                self.assert_raises("NotShort", function, other=plain, rules=rules)
            self.assert_raises("NotShort", alike, plain, rules)
            self.check(plain, rules, rules.rows()[0])
            self.check(Rules(rules.letters(), tuple(rules.letters())), rules, None)


class TestUnlikeCounts(Raising, unittest.TestCase):
    def test_examples(self):
        for rules, length, expected in (
            (Rules("a"), 4, [1, 3, 5, 7, 9]), (Rules("a"), 0, [1]), (Rules("abcd"), 0, [1]),
            (Rules("ab"), 3, [1, 5, 17, 53]),
            (Rules("abc"), 2, [1, 7, 37]), (Rules("abcd"), 2, [1, 9, 65]), (Rules("a", ("a",)), 4, [1] * 5),
            (SURFACE, 2, [1, 9, 65]),
            (Rules("a", ("aa",)), 4, [1, 2, 2, 2, 2]), (Rules("a", ("AAA",)), 4, [1, 3, 3, 3, 3]),
            (Rules("a", ("aaaaa",)), 4, [1, 3, 5, 5, 5]),
            (Rules("ab", ("a",)), 3, [1, 3, 5, 7]), (Rules("ab", ("aB",)), 3, [1, 3, 5, 7]), (DOC, 3, [1, 5, 17, 53]),
            (Rules("ab", ("a", "b")), 3, [1, 1, 1, 1]), (Rules("ab", ("a", "bb")), 3, [1, 2, 2, 2]),
            (Rules("ab", ("aa", "bb")), 3, [1, 3, 5, 7]), (Rules("ab", ("aa", "bbb")), 3, [1, 4, 8, 14]),
        ):
            with self.subTest(rows=rules.rows(), length=length):
                found = unlike_counts(rules, length)
                self.assertIs(type(found), list)
                self.assertEqual(found, expected)

    def test_powers_of_letters(self):
        for rules in POWERS:
            plain = Syllables(rules)
            counts = []
            for length in range(LENGTHS[len(rules.letters())] + 1):
                counts.append(len({plain.normal(row) for row in all_rows(rules.letters(), length)}))
                self.assertEqual(unlike_counts(rules, length), counts)

    def test_by_listing_what_is_nothing(self):
        for rules in FEW_LETTERS:
            length = LENGTHS[len(rules.letters())]
            classes = listed_classes(rules, length)
            counts = [sum(len(rows[0]) <= size for rows in classes) for size in range(length + 1)]
            with self.subTest(rows=rules.rows()):
                for size in range(length + 1):
                    self.assertEqual(unlike_counts(rules, size), counts[:size + 1])

    def test_all_of_short_rules(self):
        for rules in SHORT:
            length = LENGTHS[len(rules.letters())]
            found = unlike_counts(rules, length)
            self.assertEqual(found[0], 1)
            self.assertEqual(found, sorted(found))
            self.assertLessEqual(found[-1], len(free_rows(rules.letters(), length)))

    def test_no_length(self):
        for rules in (DOC, Rules("abcd"), Rules("a"), NOT_SHORT[0]):
            for value in NOT_LENGTHS:
                with self.subTest(value=value):
                    self.assert_raises("NoLength", unlike_counts, rules, value)
                    self.assert_raises("NoLength", unlike_counts, rules, length=value)

    def test_not_short_and_too_many(self):
        for rules in NOT_SHORT:
            for length in range(5):
                self.assert_raises("NotShort", unlike_counts, rules, length)
        for rules in SHORT:
            for length in range(LENGTHS[len(rules.letters())] + 1, 5):
                self.assert_raises("TooMany", unlike_counts, rules, length)

    def test_where_many_begin(self):
        for letters, lengths in (
            ("a", {4: 9}), ("ab", {3: 53, 4: 161}), ("abc", {2: 37, 3: 187}), ("abcd", {2: 65, 3: 457}),
        ):
            for length, many in lengths.items():
                self.assertEqual(len(free_rows(letters, length)), many)
                if many > 100:
                    self.assert_raises("TooMany", unlike_counts, Rules(letters), length)
                else:
                    self.assertEqual(unlike_counts(Rules(letters), length)[-1], many)


class TestShortest(Raising, unittest.TestCase):
    def test_examples(self):
        for rules, row, length, expected in (
            (DOC, "", 0, ""), (DOC, "abAB" * 4, 0, ""), (DOC, "aA", 3, ""), (DOC, "a", 0, None), (DOC, "a", 1, "a"),
            (DOC, "abA", 2, None),
            (DOC, "abA", 3, "abA"), (DOC, "abABabABabABabA", 1, "b"), (Rules("a", ("aa",)), "a", 1, "A"),
            (Rules("a", ("aa",)), "a", 0, None),
            (Rules("a", ("aaaa",)), "aa", 2, "AA"), (Rules("a", ("aaaa",)), "aa", 1, None),
            (Rules("a", ("aaaa",)), "aaa", 1, "A"),
            (Rules("ab", ("aB",)), "b", 1, "a"), (Rules("ab", ("aB",)), "B", 1, "A"),
            (Rules("ab", ("aB",)), "ab", 3, "aa"),
            (Rules("ab", ("ab",)), "b", 3, "A"), (Rules("ab", ("b",)), "bab" * 2, 2, "aa"),
            (SURFACE, "abABcdC", 2, "d"),
            (SURFACE, "abABc", 2, None), (Rules("a", ("a" * 40,)), "a" * 238, 2, "AA"),
            (Rules("a", ("a" * 40,)), "a" * 300, 4, None),
            (Rules("abcd", ("ab", "cd")), "bd", 2, "AC"), (Rules("ab"), "bB" * 150, 0, ""),
            (Rules("a"), "a" * 4, 4, "aaaa"),
        ):
            with self.subTest(rows=rules.rows(), row=row, length=length):
                self.assertEqual(shortest(rules, row, length), expected)

    def test_powers_of_letters(self):
        for rules in POWERS:
            plain = Syllables(rules)
            length = LENGTHS[len(rules.letters())]
            first = {}
            for row in sorted(all_rows(rules.letters(), length), key=lambda row: (len(row), row)):
                first.setdefault(plain.normal(row), row)
            chance = random.Random(21)
            signs = rules.letters() + rules.letters().upper()
            for size in list(range(8)) * 4 + [300]:
                row = "".join(chance.choice(signs) for _ in range(size))
                expected = first.get(plain.normal(row))
                for least in range(length + 1):
                    with self.subTest(rows=rules.rows(), row=row, length=least):
                        found = shortest(rules, row, least)
                        self.assertEqual(found, expected if expected is not None and len(expected) <= least else None)

    def test_by_listing_what_is_nothing(self):
        for rules in FEW_LETTERS:
            length = LENGTHS[len(rules.letters())]
            for rows in listed_classes(rules, length):
                first = min(rows, key=lambda row: (len(row), row))
                for row in rows:
                    for least in range(length + 1):
                        expected = first if len(first) <= least else None
                        self.assertEqual(shortest(rules, row, least), expected, (rules.rows(), row, least))

    def test_behind_products(self):
        chance = random.Random(22)
        for rules in SHORT:
            if rules.rows():
                for row in ("", rules.letters()[0], rules.letters()[-1].upper()):
                    longer = product_row(rules, random_product(chance, rules, 2, 4)) + row
                    self.assertEqual(shortest(rules, longer, 1), shortest(rules, row, 1))

    def test_wrong_inputs(self):
        for rules in (DOC, Rules("ab"), NOT_SHORT[0]):
            for value in NOT_ROWS + ("c", "abC", "Z"):
                with self.subTest(value=value):
                    self.assert_raises("NoRow", shortest, rules, value, 2)
                    self.assert_raises("NoRow", shortest, rules, value, 4)
                    self.assert_raises("NoRow", shortest, rules, value, None)
                    self.assert_raises("NoRow", shortest, length=5, row=value, rules=rules)
            for value in NOT_LENGTHS:
                with self.subTest(value=value):
                    self.assert_raises("NoLength", shortest, rules, "a", value)
                    self.assert_raises("NoLength", shortest, rules=rules, row="", length=value)

    def test_not_short_and_too_many(self):
        for rules in NOT_SHORT:
            for length in range(5):
                self.assert_raises("NotShort", shortest, rules, "a", length)
        for rules in SHORT:
            for length in range(LENGTHS[len(rules.letters())] + 1, 5):
                self.assert_raises("TooMany", shortest, rules, "", length)
                self.assert_raises("TooMany", shortest, rules, rules.letters(), length)


if __name__ == "__main__":
    unittest.main()
