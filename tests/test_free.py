import random
import unittest

from sixthrows import free
from sixthrows.free import back, core, joined, least, pass_freely, ring_alike, ring_lead, root
from tests.samples import (
    NOT_ROWS, NOT_STRINGS, Raising, all_rows, asserted_signatures, free_rows, is_free, plain_back, reduced,
)

LONG = "ab" * 75 + "BA" * 75
ALPHABET = "abcdefghijklmnopqrstuvwxyz"


def taken_out(row, chance):
    """The row with pairs taken out in an order that chance tells."""
    while True:
        places = [at for at in range(len(row) - 1) if row[at] == row[at + 1].swapcase()]
        if not places:
            return row
        at = chance.choice(places)
        row = row[:at] + row[at + 2:]


def is_ring(row):
    return is_free(row) and (row == "" or row[0] != row[-1].swapcase())


class TestInterface(unittest.TestCase):
    def test_names_and_arguments(self):
        asserted_signatures(self, free, {
            "least": ["row"], "back": ["row"], "joined": ["rows"], "core": ["row"], "root": ["row"],
            "ring_alike": ["one", "two"], "ring_lead": ["one", "two"], "pass_freely": ["one", "two"],
        })

    def test_arguments_by_name(self):
        self.assertEqual(least(row="aAb"), "b")
        self.assertEqual(back(row="ab"), "BA")
        self.assertEqual(joined(rows=["a", "b"]), "ab")
        self.assertEqual(core(row="abA"), ("a", "b"))
        self.assertEqual(root(row="abbA"), ("abA", 2))
        self.assertIs(ring_alike(two="b", one="abA"), True)
        self.assertEqual(ring_lead(two="b", one="abA")[0], "a")
        self.assertIs(pass_freely(two="a", one="A"), True)


class TestWrongRows(Raising, unittest.TestCase):
    def test_one_row(self):
        for function in (least, back, core, root):
            for value in NOT_ROWS:
                with self.subTest(function=function.__name__, value=value):
                    self.assert_raises("NoRow", function, value)
                    self.assert_raises("NoRow", function, row=value)

    def test_two_rows(self):
        for function in (ring_alike, ring_lead, pass_freely):
            for value in NOT_ROWS:
                with self.subTest(function=function.__name__, value=value):
                    self.assert_raises("NoRow", function, value, "ab")
                    self.assert_raises("NoRow", function, "ab", value)
                    self.assert_raises("NoRow", function, value, "")
                    self.assert_raises("NoRow", function, "", value)
                    self.assert_raises("NoRow", function, value, value)

    def test_two_strings_that_are_rows_only_together(self):
        self.assert_raises("NoRow", pass_freely, [], [])
        self.assert_raises("NoRow", pass_freely, b"a", b"b")
        self.assert_raises("NoRow", pass_freely, 1, 2)

    def test_joined_wants_a_list(self):
        for value in NOT_STRINGS + ("", "ab", ("ab", "b"), (), iter(["a"])):
            if not isinstance(value, list):
                with self.subTest(value=value):
                    self.assert_no_rows(0, joined, value)
                    self.assert_no_rows(0, joined, rows=value)

    def test_joined_tells_the_first_wrong_item(self):
        for value in NOT_ROWS:
            for at in (0, 1, 5):
                with self.subTest(value=value, at=at):
                    rows = ["ab", "", "A", "zZ", "b", "a"]
                    rows[at] = value
                    self.assert_no_rows(at, joined, rows)
                    self.assert_no_rows(at, joined, rows + [value, 1])
        self.assert_no_rows(299, joined, ["a"] * 299 + ["a b"])
        self.assert_no_rows(0, joined, [["a"]])


class TestLeast(unittest.TestCase):
    def test_examples(self):
        for row, expected in (
            ("", ""), ("a", "a"), ("A", "A"), ("aA", ""), ("Aa", ""), ("aa", "aa"), ("abBA", ""),
            ("abBAb", "b"), ("aAa", "a"), ("abAB", "abAB"), ("aB", "aB"), ("Zz", ""), ("zaAZm", "m"),
            ("abcCBAabc", "abc"), ("aAaAaA", ""), ("abABbaBA", ""),
        ):
            with self.subTest(row=row):
                self.assertEqual(least(row), expected)
                self.assertIs(type(least(row)), str)

    def test_each_letter(self):
        for char in ALPHABET:
            self.assertEqual(least(char + char.upper()), "")
            self.assertEqual(least(char.upper() + char), "")
            self.assertEqual(least(char + char), char + char)
            self.assertEqual(least(ALPHABET + ALPHABET.upper()[::-1] + char), char)

    def test_in_whatever_order(self):
        chance = random.Random(5)
        for row in all_rows("ab", 6):
            expected = least(row)
            self.assertTrue(is_free(expected))
            self.assertEqual(expected, taken_out(row, chance))
            self.assertEqual(least(expected), expected)

    def test_long_rows(self):
        chance = random.Random(6)
        self.assertEqual(least("a" * 150 + "A" * 150), "")
        self.assertEqual(least("a" * 300), "a" * 300)
        self.assertEqual(least(LONG), "")
        for _ in range(30):
            row = "".join(chance.choice("abcABC") for _ in range(300))
            self.assertEqual(least(row), taken_out(row, chance))


class TestBack(unittest.TestCase):
    def test_examples(self):
        for row, expected in (
            ("", ""), ("a", "A"), ("A", "a"), ("ab", "BA"), ("aB", "bA"), ("abA", "aBA"), ("zZy", "YzZ"),
        ):
            with self.subTest(row=row):
                self.assertEqual(back(row), expected)

    def test_the_row_as_it_is(self):
        self.assertEqual(back("aA"), "aA")
        self.assertEqual(back("aAb"), "BaA")
        self.assertEqual(back(ALPHABET), ALPHABET.upper()[::-1])

    def test_all_rows(self):
        for row in all_rows("ab", 5):
            self.assertEqual(back(row), plain_back(row))
            self.assertEqual(back(back(row)), row)
            self.assertEqual(least(row + back(row)), "")

    def test_long_row(self):
        self.assertEqual(back("aB" * 150), "bA" * 150)


class TestJoined(unittest.TestCase):
    def test_examples(self):
        for rows, expected in (
            ([], ""), ([""], ""), (["", ""], ""), (["ab"], "ab"), (["aAb"], "b"), (["ab", "BA"], ""),
            (["ab", "Bc"], "ac"), (["a", "b", "c"], "abc"), (["a", "", "A"], ""), (["ab", "c", "CB"], "a"),
            (["b", "a"], "ba"),
        ):
            with self.subTest(rows=rows):
                kept = list(rows)
                self.assertEqual(joined(rows), expected)
                self.assertEqual(rows, kept)

    def test_many_rows(self):
        rows = ["aB" * 150] * 300
        once = joined(rows)
        self.assertEqual(once, "aB" * 45000)
        self.assertEqual(rows, ["aB" * 150] * 300)
        self.assertEqual(joined([LONG] * 300), "")
        self.assertEqual(joined(["a" * 300, "A" * 300] * 150), "")


class TestCore(unittest.TestCase):
    def test_examples(self):
        for row, expected in (
            ("", ("", "")), ("aA", ("", "")), ("a", ("", "a")), ("ab", ("", "ab")), ("abA", ("a", "b")),
            ("abAB", ("", "abAB")), ("abcBA", ("ab", "c")), ("abcaBA", ("ab", "ca")), ("aa", ("", "aa")),
            ("abbA", ("a", "bb")), ("AbAa", ("", "Ab")), ("AbBba", ("A", "b")), ("baaB", ("b", "aa")),
        ):
            with self.subTest(row=row):
                self.assertEqual(core(row), expected)
                self.assertIs(type(core(row)), tuple)

    def test_all_rows(self):
        for row in all_rows("ab", 6):
            lead, ring = core(row)
            self.assertTrue(is_free(lead))
            self.assertTrue(is_ring(ring))
            self.assertEqual(lead + ring + plain_back(lead), least(row))

    def test_long_rows(self):
        lead = "aB" * 74 + "a"
        self.assertEqual(core(lead + "bb" + plain_back(lead)), (lead, "bb"))
        self.assertEqual(core("a" * 300), ("", "a" * 300))
        self.assertEqual(core(LONG), ("", ""))


class TestRoot(unittest.TestCase):
    def test_examples(self):
        for row, expected in (
            ("", ("", 0)), ("aA", ("", 0)), ("abBA", ("", 0)), ("a", ("a", 1)), ("A", ("A", 1)),
            ("aa", ("a", 2)), ("AAA", ("A", 3)), ("abab", ("ab", 2)), ("aba", ("aba", 1)),
            ("abbA", ("abA", 2)), ("abA", ("abA", 1)), ("aabaab", ("aab", 2)), ("BABABA", ("BA", 3)),
            ("abABabAB", ("abAB", 2)), ("baBAbaBA", ("baBA", 2)), ("cababC", ("cabC", 2)),
            ("aaA", ("a", 1)), ("abaBabbA", ("abaBabbA", 1)), ("aBBBA", ("aBA", 3)),
        ):
            with self.subTest(row=row):
                self.assertEqual(root(row), expected)
                self.assertIs(type(root(row)), tuple)
                self.assertIs(type(root(row)[1]), int)

    def test_all_rows(self):
        powers = {}
        for base in free_rows("ab", 5):
            power = ""
            for times in range(1, 6):
                power = reduced(power + base)
                powers.setdefault(power, {})[base] = times
        for row in all_rows("ab", 5):
            expected, times = root(row)
            if least(row) == "":
                self.assertEqual((expected, times), ("", 0))
                continue
            found = powers[least(row)]
            self.assertEqual(times, max(found.values()))
            self.assertEqual(found[expected], times)
            self.assertEqual(root(expected), (expected, 1))

    def test_powers_and_backs(self):
        for base in ("a", "ab", "aB", "aab", "abAB", "cabC", "abbA" + "b", "Abca"):
            for times in (1, 2, 3, 7, 30):
                with self.subTest(base=base, times=times):
                    power = reduced(base * times)
                    self.assertEqual(root(base * times), (base, times))
                    self.assertEqual(root(power), (base, times))
                    self.assertEqual(root(plain_back(power)), (plain_back(base), times))

    def test_long_rows(self):
        self.assertEqual(root("a" * 300), ("a", 300))
        self.assertEqual(root("ab" * 150), ("ab", 150))
        self.assertEqual(root("a" * 299 + "b"), ("a" * 299 + "b", 1))
        self.assertEqual(root("B" * 100 + "a" * 100 + "b" * 100), ("B" * 100 + "a" + "b" * 100, 100))
        self.assertEqual(root(LONG), ("", 0))


class TestRingsAlike(unittest.TestCase):
    def check(self, one, two, alike):
        self.assertIs(ring_alike(one, two), alike)
        lead = ring_lead(one, two)
        if not alike:
            self.assertIsNone(lead)
            return
        self.assertIs(type(lead), str)
        self.assertTrue(is_free(lead))
        self.assertEqual(reduced(lead + two + plain_back(lead)), reduced(one))

    def test_examples(self):
        for one, two, alike in (
            ("", "", True), ("", "aA", True), ("aA", "bB", True), ("", "a", False), ("a", "", False),
            ("a", "a", True), ("a", "A", False), ("a", "b", False), ("ab", "ba", True), ("a", "aa", False),
            ("abA", "b", True), ("b", "abA", True), ("abA", "cbC", True), ("aabb", "abab", False),
            ("aabb", "abba", True), ("aab", "bbA", False), ("abAB", "ABab", True), ("abAB", "baBA", False),
            ("cabC", "bbabBB", True), ("abcabd", "abdabc", True), ("abc", "acb", False), ("ab", "BA", False),
            ("ab", "abab", False), ("aAb", "Cbc", True),
        ):
            with self.subTest(one=one, two=two):
                self.check(one, two, alike)
                self.check(two, one, alike)

    def test_all_pairs_of_small_rows(self):
        leads = free_rows("ab", 3)
        rows = free_rows("ab", 3)
        for two in rows:
            turned = {reduced(lead + two + plain_back(lead)) for lead in leads}
            for one in rows:
                with self.subTest(one=one, two=two):
                    self.check(one, two, one in turned)

    def test_turned_about_and_led(self):
        chance = random.Random(7)
        for ring in ("a", "ab", "aab", "abAB", "abacb", "abcabc", "aBcBaaC"):
            for turned in range(len(ring)):
                for lead in ("", "a", "B", "ab", "Bc", ring, plain_back(ring), ring * 3 + "c"):
                    one = lead + ring[turned:] + ring[:turned] + plain_back(lead)
                    two = reduced(chance.choice(["b", "cA", "CC"]))
                    with self.subTest(one=one, two=two):
                        self.check(one, ring, True)
                        self.check(two + ring + plain_back(two), one, True)

    def test_long_rows(self):
        one = "a" * 150 + "b" * 150
        self.check(one, "a" * 75 + "b" * 150 + "a" * 75, True)
        self.check(one, "a" * 149 + "b" * 151, False)
        self.check("A" * 149 + "bb" + "a" * 149, "bb", True)
        self.check("a" * 300, "a" * 300, True)
        self.check("a" * 300, "a" * 299, False)


class TestPassFreely(unittest.TestCase):
    def test_examples(self):
        for one, two, expected in (
            ("", "", True), ("", "a", True), ("a", "", True), ("a", "a", True), ("a", "A", True),
            ("aa", "AAA", True), ("a", "b", False), ("ab", "abab", True), ("ab", "BA", True),
            ("ab", "ba", False), ("aA", "b", True), ("abA", "abbA", True), ("abA", "b", False),
            ("abA", "aBA", True), ("ab", "aB", False), ("abAB", "baBA", True), ("aAb", "bb", True),
        ):
            with self.subTest(one=one, two=two):
                self.assertIs(pass_freely(one, two), expected)
                self.assertIs(pass_freely(two, one), expected)

    def test_just_the_powers_of_one_root(self):
        rows = all_rows("ab", 3)
        for one in rows:
            for two in rows:
                roots = {root(one)[0], root(two)[0], back(root(one)[0]), back(root(two)[0])} - {""}
                alike = least(one) == "" or least(two) == "" or len(roots) == 2
                self.assertIs(pass_freely(one, two), alike)

    def test_long_rows(self):
        self.assertIs(pass_freely("ab" * 150, "BA" * 149), True)
        self.assertIs(pass_freely("ab" * 150, "BA" * 149 + "a"), False)
        self.assertIs(pass_freely(LONG, "a"), True)


class TestWhatIsReturnedIsPassedOn(unittest.TestCase):
    def test_rows_beyond_the_limit(self):
        longer = joined(["a" * 299 + "b"] * 300)
        self.assertEqual(len(longer), 90000)
        self.assertEqual(least(longer), longer)
        self.assertEqual(back(back(longer)), longer)
        self.assertEqual(core(longer), ("", longer))
        self.assertEqual(root(longer), ("a" * 299 + "b", 300))
        self.assertEqual(joined([longer, back(longer)]), "")
        self.assertIs(pass_freely(longer, "a" * 299 + "b"), True)
        turned = longer[300 * 7 + 5:] + longer[:300 * 7 + 5]
        self.assertIs(ring_alike(longer, turned), True)
        lead = ring_lead(longer, turned)
        self.assertEqual(joined([lead, turned, back(lead)]), longer)
        self.assertIs(ring_alike(longer, "b" + longer[1:]), False)

    def test_slow_rows(self):
        for row in ("a" * 89999 + "b", "a" * 45000 + "b" + "a" * 44999, "ab" * 44999 + "aa"):
            self.assertEqual(root(row), (row, 1))
            self.assertIs(ring_alike(row, row[1:] + row[:1]), True)
            self.assertIs(ring_alike(row, row[:-1] + "c"), False)
        deep = "ab" * 22500
        self.assertEqual(core(deep + "c" + back(deep)), (deep, "c"))
        self.assertEqual(root(deep + "ccc" + back(deep)), (deep + "c" + back(deep), 3))


if __name__ == "__main__":
    unittest.main()
