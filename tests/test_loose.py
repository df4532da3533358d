import random
import unittest
from itertools import combinations, product
from math import gcd

from sixthrows import loose
from sixthrows.loose import divisors, loose_order, sums
from sixthrows.rules import Rules
from tests.samples import (
    DOC, NOT_ROWS, NOT_SHORT, SHORT, SURFACE, Raising, all_rows, asserted_signatures, plain_back, random_row,
    random_rules,
)


def counted(letters, row):
    """The sums, counted one character at a time."""
    found = dict.fromkeys(letters, 0)
    for char in row:
        found[char.lower()] += 1 if char.islower() else -1
    return list(found.values())


def determinant(table):
    if not table:
        return 1
    minors = ([line[:at] + line[at + 1:] for line in table[1:]] for at in range(len(table)))
    return sum((-1) ** at * table[0][at] * determinant(minor) for at, minor in enumerate(minors))


def minor_gcd(table, size):
    """The greatest common divisor of the minors of this size, 0 if all of them are 0."""
    width = len(table[0]) if table else 0
    return gcd(*[
        determinant([[line[at] for at in columns] for line in lines])
        for lines in combinations(table, size) for columns in combinations(range(width), size)
    ])


def minor_gcds(table):
    """Those above 0, from size 0 on."""
    found = [1]
    while len(found) <= len(table) and minor_gcd(table, len(found)):
        found.append(minor_gcd(table, len(found)))
    return found


def table_of(rules):
    return [counted(rules.letters(), row) for row in rules.rows()]


def divisors_by_minors(rules):
    found = minor_gcds(table_of(rules))
    chain = [found[at] // found[at - 1] for at in range(1, len(found))]
    return len(rules.letters()) - len(chain), [number for number in chain if number > 1]


def order_by_minors(rules, row, most):
    """The least number up to most that makes sums no more than those of told rows give."""
    table = table_of(rules)
    line = counted(rules.letters(), row)
    wanted = minor_gcds(table)[-1], len(minor_gcds(table))
    if len(minor_gcds(table + [line])) > wanted[1]:
        return None
    for times in range(1, most + 1):
        found = minor_gcds(table + [[times * number for number in line]])
        if (found[-1], len(found)) == wanted:
            return times
    raise AssertionError("more than most")


def samples(chance):
    lots = list(SHORT + NOT_SHORT)
    for letters, sizes in (("a", range(1, 41)), ("ab", range(1, 10)), ("bxz", range(1, 20)), ("abcd", range(1, 41))):
        for many in range(7):
            lots += [random_rules(chance, letters, sizes, many) for _ in range(6)]
    for many in range(1, 5):
        for _ in range(8):
            rules = random_rules(chance, "abc", range(1, 7), many)
            rows = tuple(row * chance.choice((2, 3, 4, 6)) for row in rules.rows())
            lots.append(Rules("abc", rows))
    return lots


class TestInterface(unittest.TestCase):
    def test_names_and_arguments(self):
        asserted_signatures(self, loose, {
            "sums": ["rules", "row"], "divisors": ["rules"], "loose_order": ["rules", "row"],
        })


class TestSums(Raising, unittest.TestCase):
    def test_examples(self):
        for letters, row, expected in (
            ("ab", "", (0, 0)), ("ab", "a", (1, 0)), ("ab", "B", (0, -1)), ("ab", "abAB", (0, 0)), ("ab", "aA", (0, 0)),
            ("a", "AAA", (-3,)), ("abcd", "dCcbDDa", (1, 1, 0, -1)), ("xz", "zzX", (-1, 2)), ("a", "a" * 300, (300,)),
        ):
            with self.subTest(letters=letters, row=row):
                found = sums(Rules(letters), row)
                self.assertIs(type(found), tuple)
                self.assertEqual(found, expected)
                self.assertEqual(sums(Rules(letters), plain_back(row)), tuple(-number for number in expected))

    def test_by_counting(self):
        chance = random.Random(23)
        for row in all_rows("ab", 5):
            self.assertEqual(sums(DOC, row), tuple(counted("ab", row)))
        for letters in ("b", "az", "bcx", "dmqz"):
            for _ in range(20):
                row = "".join(chance.choice(letters + letters.upper()) for _ in range(chance.randrange(301)))
                self.assertEqual(sums(Rules(letters), row), tuple(counted(letters, row)))

    def test_wrong_rows(self):
        for value in NOT_ROWS + ("c", "abC", "Z"):
            with self.subTest(value=value):
                for rules in (DOC, Rules("ab"), NOT_SHORT[0]):
                    for function in (sums, loose_order):
                        self.assert_raises("NoRow", function, rules, value)
                        self.assert_raises("NoRow", function, row=value, rules=rules)


class TestDivisors(unittest.TestCase):
    def test_examples(self):
        for letters, rows, expected in (
            ("a", (), (1, [])), ("abcd", (), (4, [])), ("a", ("a",), (0, [])), ("a", ("aa",), (0, [2])),
            ("a", ("A" * 40,), (0, [40])),
            ("ab", ("abAB",), (2, [])), ("ab", ("a",), (1, [])), ("ab", ("aaaa", "bbb"), (0, [12])),
            ("ab", ("aaaa", "bb"), (0, [2, 4])),
            ("ab", ("a" * 6, "b" * 10), (0, [2, 30])), ("ab", ("aa", "BB"), (0, [2, 2])), ("ab", ("aabb",), (1, [2])),
            ("ab", ("aabb", "aB"), (0, [4])), ("ab", ("ab", "aB"), (0, [2])), ("abcd", ("abABcdCD",), (4, [])),
            ("a", ("aa", "aaa"), (0, [])),
            ("abcd", ("aa", "bb", "cc", "dd"), (0, [2, 2, 2, 2])), ("abc", ("aa", "ccc"), (1, [6])),
            ("ab", ("aaaa", "a" * 6), (1, [2])),
            ("abcd", ("a" * 4, "b" * 6, "c" * 10, "d" * 15), (0, [2, 30, 60])), ("ab", ("aab", "abb"), (0, [3])),
            ("ab", ("a" * 39 + "b", "a" + "b" * 39), (0, [1520])), ("abc", ("abc", "bbcc"), (1, [2])),
        ):
            with self.subTest(rows=rows):
                found = divisors(Rules(letters, rows))
                self.assertIs(type(found), tuple)
                self.assertIs(type(found[0]), int)
                self.assertIs(type(found[1]), list)
                self.assertEqual(found, expected)

    def test_by_minors(self):
        several = 0
        for rules in samples(random.Random(24)):
            with self.subTest(letters=rules.letters(), rows=rules.rows()):
                found = divisors(rules)
                self.assertEqual(found, divisors_by_minors(rules))
                for one, two in zip(found[1], found[1][1:]):
                    self.assertEqual(two % one, 0)
                several += len(found[1]) > 1
        self.assertGreater(several, 10)

    def test_all_ways_of_reckoning(self):
        chance = random.Random(25)
        for rules in samples(chance)[::5]:
            rows = [chance.choice((row, plain_back(row))) for row in rules.rows()]
            chance.shuffle(rows)
            self.assertEqual(divisors(Rules(rules.letters(), tuple(rows))), divisors(rules))
            letters = rules.letters()
            swapped = dict(zip(letters + letters.upper(), letters[::-1] + letters[::-1].upper()))
            rows = tuple("".join(swapped[char] for char in row) for row in rules.rows())
            self.assertEqual(divisors(Rules(rules.letters(), rows)), divisors(rules))


class TestLooseOrder(unittest.TestCase):
    def test_examples(self):
        for letters, rows, row, expected in (
            ("a", (), "", 1), ("a", (), "a", None), ("a", (), "aA", 1), ("ab", (), "abAB", 1), ("a", ("a",), "a", 1),
            ("a", ("aa",), "a", 2),
            ("a", ("a" * 40,), "A", 40), ("a", ("a" * 40,), "a" * 300, 2), ("a", ("a" * 40,), "a" * 280, 1),
            ("a", ("aaaa", "a" * 6), "a", 2),
            ("ab", ("aaaa", "bbb"), "ab", 12), ("ab", ("aaaa", "bbb"), "aab", 6), ("ab", ("aaaa", "bbb"), "aaB", 6),
            ("ab", ("aa",), "ab", None),
            ("ab", ("aabb",), "ab", 2), ("ab", ("aabb",), "BA", 2), ("ab", ("aabb",), "a", None),
            ("ab", ("ab", "aB"), "a", 2),
            ("ab", ("ab", "aB"), "aabb", 1), ("ab", ("abAB",), "a", None), ("ab", ("abAB",), "abAB", 1),
            ("ab", ("aab", "abb"), "a", 3),
            ("ab", ("a" * 39 + "b", "a" + "b" * 39), "a", 1520), ("ab", ("aabbb",), "AABBB" * 2, 1),
            ("abc", ("ab", "bc"), "ac", None),
            ("abc", ("ab", "bc"), "aC", 1), ("abc", ("aab", "bbc"), "ac", None),
            ("abcd", ("aa", "bbb", "c" * 5, "d" * 7), "abcd", 210),
        ):
            with self.subTest(rows=rows, row=row):
                rules = Rules(letters, rows)
                found = loose_order(rules, row)
                self.assertEqual(found, expected)
                self.assertEqual(loose_order(rules, plain_back(row)), expected)
                if expected is not None:
                    self.assertIs(type(found), int)

    def test_by_minors(self):
        chance = random.Random(26)
        found = set()
        for rules in samples(chance):
            for size in (0, 1, 2, 3, 5, 300):
                row = random_row(chance, rules.letters(), size)
                times = loose_order(rules, row)
                with self.subTest(letters=rules.letters(), rows=rules.rows(), row=row):
                    if times is None or times <= 40:
                        self.assertEqual(times, order_by_minors(rules, row, 40))
                    else:
                        self.assertTrue(self.divides_out(rules, row, times))
                found.add(times)
        self.assertTrue({None, 1, 2, 3, 4, 5, 6} <= found)
        self.assertGreater(len(found), 20)

    def divides_out(self, rules, row, times):
        """Whether so many times the sums are given, and less often not, by the primes of times."""
        table, line = table_of(rules), counted(rules.letters(), row)
        divided = [prime for prime in range(2, times + 1) if times % prime == 0]
        primes = [prime for prime in divided if not any(prime % one == 0 for one in divided if one < prime)]
        numbers = [times] + [times // prime for prime in primes]
        given = [minor_gcds(table + [[number * one for one in line]]) for number in numbers]
        wanted = minor_gcds(table)
        same = [(found[-1], len(found)) == (wanted[-1], len(wanted)) for found in given]
        return same[0] and not any(same[1:])

    def test_by_putting_sums_together(self):
        chance = random.Random(27)
        for _ in range(40):
            rules = random_rules(chance, "ab", range(1, 5), chance.randrange(3))
            table = table_of(rules)
            given = {
                tuple(sum(many * line[at] for many, line in zip(times, table)) for at in range(2))
                for times in product(range(-40, 41), repeat=len(table))
            }
            for row in ("", "a", "b", "ab", "aB", "aab", "BBa"):
                line = counted("ab", row)
                least = next((number for number in range(1, 17) if tuple(number * one for one in line) in given), None)
                with self.subTest(rows=rules.rows(), row=row):
                    self.assertEqual(loose_order(rules, row), least)


if __name__ == "__main__":
    unittest.main()
