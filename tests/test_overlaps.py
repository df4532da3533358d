import random
import unittest
from itertools import combinations
from os.path import commonprefix

from sixthrows import overlaps
from sixthrows.overlaps import clashes, is_short, least_lots, least_power, overlap, pieces, power
from sixthrows.rules import Rules
from tests.samples import (
    DOC, NOT_INTEGERS, NOT_SHORT, SHORT, SURFACE, Raising, asserted_signatures, plain_kin, random_rules, turned,
)

# The only overlap of the one with "a" written often is "AA"; its own are of two characters.
TWENTY = "DDACbAAbdAcDBBadcbCb"


def listed_overlap(first_kin, second_kin):
    return max([len(commonprefix([one, two])) for one in first_kin for two in second_kin if one != two], default=0)


def listed_pieces(rules):
    kin = sorted(set().union(*[plain_kin(row) for row in rules.rows()]))
    begun = {}
    for row in kin:
        for size in range(1, len(row) + 1):
            begun.setdefault(row[:size], set()).add(row)
    return {piece for piece, rows in begun.items() if len(rows) > 1}


def listed_short(rules):
    found = listed_pieces(rules)
    for row in rules.rows():
        for other in plain_kin(row):
            if any(piece in other and not 6 * len(piece) < len(row) for piece in found):
                return False
    return True


def listed_clashes(rules):
    found = []
    for one, first in enumerate(rules.rows()):
        for two, second in enumerate(rules.rows()[one:], one):
            size = listed_overlap(plain_kin(first), plain_kin(second))
            if size > 0 and (6 * size >= len(first) or 6 * size >= len(second)):
                found.append((one, two, size))
    return found


def without_all(rules, lot):
    return Rules(rules.letters(), tuple(row for index, row in enumerate(rules.rows()) if index not in lot))


def listed_lots(rules):
    many = len(rules.rows())
    lots = [lot for size in range(many + 1) for lot in combinations(range(many), size)]
    good = {lot for lot in lots if listed_short(without_all(rules, lot))}
    return sorted(lot for lot in good if not any(lot[:at] + lot[at + 1:] in good for at in range(len(lot))))


def listed_power(rules, most):
    """The least times up to most by which the rows, of any length, do not clash; None if none does."""
    for times in range(1, most + 1):
        rows = [row * times for row in rules.rows()]
        kin = [plain_kin(row) for row in rows]
        if not any(
            6 * listed_overlap(kin[one], kin[two]) >= min(len(rows[one]), len(rows[two]))
            for one in range(len(rows)) for two in range(one, len(rows))
        ):
            return times
    return None


def samples():
    chance = random.Random(8)
    lots = list(SHORT + NOT_SHORT)
    for letters, sizes in (("a", (1, 2, 5)), ("ab", range(1, 9)), ("abc", range(4, 16)), ("abcd", range(9, 31))):
        for many in range(7):
            if letters != "a" or many < 3:
                lots += [random_rules(chance, letters, sizes, many) for _ in range(3)]
    return lots


class TestInterface(unittest.TestCase):
    def test_names_and_arguments(self):
        asserted_signatures(self, overlaps, {
            "overlap": ["rules", "one", "two"], "pieces": ["rules"], "is_short": ["rules"], "clashes": ["rules"],
            "least_lots": ["rules"], "power": ["rules", "times"], "least_power": ["rules"],
        })


class TestOverlap(Raising, unittest.TestCase):
    def test_examples(self):
        for letters, rows, one, two, expected in (
            ("ab", ("abAB",), 0, 0, 1), ("ab", ("a",), 0, 0, 0), ("ab", ("a" * 40,), 0, 0, 0), ("ab", ("ab",), 0, 0, 0),
            ("ab", ("abab",), 0, 0, 0), ("ab", ("aab",), 0, 0, 1), ("ab", ("aaab",), 0, 0, 2),
            ("ab", ("a" * 39 + "b",), 0, 0, 38), ("ab", ("a", "b"), 0, 1, 0), ("ab", ("ab", "aB"), 0, 1, 1),
            ("ab", ("ab", "abab"), 0, 1, 2), ("ab", ("a", "a" * 40), 0, 1, 1), ("ab", ("aa", "AAA"), 0, 1, 2),
            ("ab", ("aab", "BBA"), 0, 1, 2), ("ab", ("a" * 39 + "b", "a" * 38 + "b"), 0, 1, 39),
            ("ab", ("abAB" * 4,), 0, 0, 1), ("abcd", ("abABcdCD",), 0, 0, 1), ("abcd", (TWENTY, "a" * 13), 0, 1, 2),
            ("abcd", (TWENTY, "a" * 13), 0, 0, 2), ("abcd", (TWENTY, "a" * 13), 1, 1, 0),
        ):
            with self.subTest(rows=rows, one=one, two=two):
                rules = Rules(letters, rows)
                self.assertEqual(overlap(rules, one, two), expected)
                self.assertEqual(overlap(rules, two, one), expected)
                self.assertIs(type(overlap(rules, one, two)), int)

    def test_by_listing_all_kin(self):
        for rules in samples():
            kin = [plain_kin(row) for row in rules.rows()]
            for one in range(len(kin)):
                for two in range(len(kin)):
                    with self.subTest(rows=rules.rows(), one=one, two=two):
                        self.assertEqual(overlap(rules, one, two), listed_overlap(kin[one], kin[two]))

    def test_turned_and_back_is_all_one(self):
        for row in turned("aabbaB"):
            for other in (row, row[::-1].swapcase()):
                self.assertEqual(overlap(Rules("ab", (other, "ababb")), 0, 1), 4)
                self.assertEqual(overlap(Rules("ab", (other, "ababb")), 0, 0), 1)

    def test_no_index(self):
        for rules in (Rules("ab", ("abAB", "aaab")), Rules("ab", ("a",)), Rules("ab")):
            many = len(rules.rows())
            for value in NOT_INTEGERS + (many, many + 1, -1, -2, 6, 10 ** 59, -10 ** 59):
                with self.subTest(many=many, value=value):
                    self.assert_raises("NoIndex", overlap, rules, value, 0)
                    self.assert_raises("NoIndex", overlap, rules, 0, value)
                    self.assert_raises("NoIndex", overlap, rules, one=value, two=value)


class TestPieces(unittest.TestCase):
    def test_examples(self):
        for letters, rows, expected in (
            ("ab", (), []), ("ab", ("a",), []), ("ab", ("a" * 40,), []), ("ab", ("ab",), []),
            ("ab", ("a", "b"), []), ("ab", ("abAB",), ["A", "B", "a", "b"]),
            ("ab", ("ab", "abab"), ["AB", "BA", "ab", "ba"]),
            ("ab", ("aab",), ["A", "a"]), ("ab", ("aaab",), ["AA", "aa"]), ("ab", ("a", "aaa"), ["A", "a"]),
            ("ab", ("aa", "aab"), ["AA", "aa"]), ("abc", ("ab", "ac"), ["A", "a"]),
        ):
            with self.subTest(rows=rows):
                self.assertEqual(pieces(Rules(letters, rows)), expected)

    def test_by_listing_all_kin(self):
        for rules in samples():
            with self.subTest(rows=rules.rows()):
                listed = listed_pieces(rules)
                last = [one for one in listed if not any(two != one and two.startswith(one) for two in listed)]
                found = pieces(rules)
                self.assertIs(type(found), list)
                self.assertEqual(found, sorted(last))
                self.assertEqual({row[:size] for row in found for size in range(1, len(row) + 1)}, listed)

    def test_all_of_a_kin_is_a_piece(self):
        self.assertIn("abc", pieces(Rules("abc", ("abc", "abcabc"))))


class TestShort(unittest.TestCase):
    def test_examples(self):
        for rules in SHORT:
            with self.subTest(rows=rules.rows()):
                self.assertIs(is_short(rules), True)
        for rules in NOT_SHORT:
            with self.subTest(rows=rules.rows()):
                self.assertIs(is_short(rules), False)

    def test_less_equal_above(self):
        for letters, rows, sizes in (
            ("ab", ("abAB" * 2,), {5: (1, False), 6: (1, False), 7: (1, True)}),
            ("abcd", (TWENTY,), {11: (2, False), 12: (2, False), 13: (2, True)}),
        ):
            for size, (length, short) in sizes.items():
                with self.subTest(rows=rows, size=size):
                    rules = Rules(letters, rows + ("a" * size,))
                    self.assertEqual(overlap(rules, 0, 1), length)
                    self.assertIs(is_short(rules), short)
                    self.assertEqual(clashes(rules), [] if short else [(0, 1, length)])
                    turned_over = Rules(letters, ("A" * size,) + rows)
                    self.assertIs(is_short(turned_over), short)
                    self.assertEqual(clashes(turned_over), [] if short else [(0, 1, length)])

    def test_less_and_equal_with_itself(self):
        for row, size, length, short in (
            ("cAdaCabadAddB", 13, 2, True), ("aDBdCbCbAAdB", 12, 2, False), ("abABcdCD", 8, 1, True),
            ("abcABC", 6, 1, False), ("abcABCd", 7, 1, True), ("abAB", 4, 1, False),
        ):
            with self.subTest(row=row):
                rules = Rules("abcd", (row,))
                self.assertEqual(len(row), size)
                self.assertEqual(overlap(rules, 0, 0), length)
                self.assertIs(is_short(rules), short)

    def test_by_asking_each_piece(self):
        seen = {True: 0, False: 0}
        for rules in samples():
            with self.subTest(rows=rules.rows()):
                short = listed_short(rules)
                self.assertIs(is_short(rules), short)
                seen[short] += 1
        self.assertGreater(min(seen.values()), 20)

    def test_rules_without_a_row_stay_short(self):
        for rules in SHORT:
            for index in range(len(rules.rows())):
                self.assertIs(is_short(rules.without(index)), True)


class TestClashes(unittest.TestCase):
    def test_examples(self):
        for letters, rows, expected in (
            ("ab", (), []), ("ab", ("abAB",), [(0, 0, 1)]), ("ab", ("ab", "abab"), [(0, 1, 2)]),
            ("ab", ("a", "b"), []), ("ab", ("a", "ab", "b"), [(0, 1, 1), (1, 2, 1)]),
            ("ab", ("aab", "b"), [(0, 0, 1), (0, 1, 1)]), ("ab", ("b", "aab"), [(0, 1, 1), (1, 1, 1)]),
            ("ab", ("a" * 6, "abAB" * 2), [(0, 1, 1)]), ("ab", ("abAB" * 2, "a" * 6), [(0, 1, 1)]),
            ("ab", ("a" * 39 + "b", "a" * 38 + "b"), [(0, 0, 38), (0, 1, 39), (1, 1, 37)]),
        ):
            with self.subTest(rows=rows):
                self.assertEqual(clashes(Rules(letters, rows)), expected)

    def test_by_listing_all_kin(self):
        for rules in samples():
            with self.subTest(rows=rules.rows()):
                found = clashes(rules)
                self.assertIs(type(found), list)
                self.assertEqual(found, listed_clashes(rules))
                self.assertIs(is_short(rules), found == [])


class TestLeastLots(unittest.TestCase):
    def test_examples(self):
        for letters, rows, expected in (
            ("ab", (), [()]), ("ab", ("a", "b"), [()]), ("ab", ("abAB",), [(0,)]),
            ("ab", ("a", "ab", "b"), [(0, 2), (1,)]),
            ("ab", ("aab", "b"), [(0,)]), ("ab", ("a", "ab", "aB", "b"), [(0, 1, 3), (0, 2, 3), (1, 2)]),
            ("ab", ("ab", "abab", "ababab"), [(0, 1), (0, 2), (1, 2)]), ("ab", ("abAB", "aab", "aabb"), [(0, 1, 2)]),
            ("abc", ("a", "b", "c", "ab", "cb"), [(0, 1, 4), (1, 2, 3), (3, 4)]),
        ):
            with self.subTest(rows=rows):
                self.assertEqual(least_lots(Rules(letters, rows)), expected)

    def test_short_rules(self):
        for rules in SHORT:
            self.assertEqual(least_lots(rules), [()])

    def test_by_asking_all_lots(self):
        several = 0
        for rules in samples():
            with self.subTest(rows=rules.rows()):
                found = least_lots(rules)
                self.assertIs(type(found), list)
                self.assertTrue(all(type(lot) is tuple for lot in found))
                self.assertEqual(found, listed_lots(rules))
                several += len(found) > 2
        self.assertGreater(several, 3)


class TestPower(Raising, unittest.TestCase):
    def test_ordinary(self):
        rules = Rules("abc", ("a", "bC", "acAC"))
        for times in range(1, 11):
            found = power(rules, times)
            self.assertIs(type(found), Rules)
            self.assertEqual(found, Rules("abc", ("a" * times, "bC" * times, "acAC" * times)))
        self.assertEqual(rules, Rules("abc", ("a", "bC", "acAC")))

    def test_forty_times(self):
        self.assertEqual(power(Rules("ab", ("a", "B")), 40), Rules("ab", ("a" * 40, "B" * 40)))
        self.assertEqual(power(Rules("ab"), 40), Rules("ab"))
        self.assertEqual(power(SURFACE, 1), SURFACE)

    def test_longer_than_forty(self):
        for letters, rows, times, index in (
            ("ab", ("abAB",), 11, 0), ("ab", ("a", "ab", "abAB"), 11, 2), ("ab", ("a", "ab", "abAB"), 21, 1),
            ("ab", ("a", "ab", "abAB"), 40, 1), ("ab", ("a" * 21,), 2, 0), ("ab", ("a", "a" * 21, "b" * 30), 2, 1),
            ("ab", ("a" * 40,), 40, 0),
        ):
            with self.subTest(rows=rows, times=times):
                self.assert_no_rows(index, power, Rules(letters, rows), times)
                self.assert_no_rows(index, power, rules=Rules(letters, rows), times=times)

    def test_no_times(self):
        for rules in (Rules("ab"), Rules("ab", ("a",)), Rules("ab", ("a" * 40,))):
            for value in NOT_INTEGERS + (0, -1, 41, 42, 10 ** 59, -10 ** 59):
                with self.subTest(rows=rules.rows(), value=value):
                    self.assert_raises("NoTimes", power, rules, value)
                    self.assert_raises("NoTimes", power, rules, times=value)


class TestLeastPower(unittest.TestCase):
    def test_examples(self):
        for letters, rows, expected in (
            ("ab", (), 1), ("ab", ("a",), 1), ("ab", ("abAB",), 2), ("ab", ("a", "ab"), 7), ("ab", ("a", "aa"), None),
            ("ab", ("ab", "BABA"), None), ("ab", ("abab", "bababa"), None), ("ab", ("aab",), 3),
            ("ab", ("a" * 39 + "b", "a"), 235), ("ab", ("a" * 20 + "b", "a" * 19 + "b", "a"), 121),
            ("ab", ("ab", "aB", "a" * 40, "a"), None), ("ab", ("ab" * 19 + "aa", "ab"), 118),
        ):
            with self.subTest(rows=rows):
                self.assertEqual(least_power(Rules(letters, rows)), expected)

    def test_short_rules(self):
        for rules in SHORT:
            self.assertEqual(least_power(rules), 1)

    def test_by_listing_all_kin(self):
        chance = random.Random(9)
        found = set()
        for letters, sizes in (("a", (1, 2, 3)), ("ab", range(1, 6)), ("abc", range(1, 8))):
            for many in (1, 2, 3):
                for _ in range(12 if letters != "a" else 2):
                    rules = random_rules(chance, letters, sizes, many)
                    with self.subTest(rows=rules.rows()):
                        times = least_power(rules)
                        self.assertEqual(times, listed_power(rules, 30))
                        found.add(times)
        self.assertIn(None, found)
        self.assertGreater(len(found), 4)

    def test_many_times(self):
        rules = Rules("ab", ("a", "aaaab"))
        self.assertEqual(least_power(rules), 25)
        self.assertEqual(listed_power(rules, 25), 25)

    def test_rows_that_part_late(self):
        for rows, expected in (
            (("a" * 39 + "b", "a" * 38 + "b"), 12), (("a" * 20 + "b", "a" * 19 + "b"), 12),
            (("ab" * 19 + "b", "ab" * 18 + "b"), 13),
        ):
            with self.subTest(rows=rows):
                rules = Rules("ab", rows)
                self.assertEqual(least_power(rules), expected)
                self.assertEqual(listed_power(rules, expected), expected)

    def test_with_power(self):
        for rules in (Rules("ab", ("abAB",)), Rules("ab", ("a", "ab")), Rules("abc", ("ab", "ac")), DOC):
            times = least_power(rules)
            self.assertIs(is_short(power(rules, times)), True)
            for less in range(1, times):
                self.assertIs(is_short(power(rules, less)), False)


if __name__ == "__main__":
    unittest.main()
