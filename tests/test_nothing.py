import random
import unittest

from sixthrows import nothing
from sixthrows.free import joined, root
from sixthrows.nothing import coming_round, is_nothing, is_product, is_rest, order, product, rest, same
from sixthrows.rules import Rules
from tests.samples import (
    DOC, NOT_ROWS, NOT_SHORT, POWERS, SHORT, SURFACE, Raising, Syllables, all_rows, asserted_signatures, free_rows,
    holding_maps, is_free, moves, nothing_up_to, plain_back, plain_kin, product_row, random_product, random_row,
    reduced,
)

WITH_ROWS = tuple(rules for rules in SHORT if rules.rows())
# Rules of two letters at most, and how long the rows may be that are looked through.
LISTED = (
    (DOC, 6), (Rules("ab", ("a" * 7, "b" * 7, "abAB" * 2)), 8), (Rules("ab", ("abAB" * 2, "b" * 7)), 8),
    (Rules("ab", ("ab" * 4,)), 8), (Rules("ab", ("aB",)), 6), (Rules("a", ("aaaaa",)), 40),
    (Rules("ab", ("aaaa", "bbb")), 7),
    (Rules("ab", ("BabbbAAAbABAB",)), 8),
)


def plain_halves(rules):
    """All rows that are just more than half of a kin."""
    return {kin[:len(told) // 2 + 1] for told in rules.rows() for kin in plain_kin(told)}


def has_half(rules, row, halves=None):
    """Whether a row has, side by side, more than half of a kin."""
    return any(half in row for half in halves or plain_halves(rules))


def long_row(chance, rules):
    """A row of at most 300 characters, free or not, with much of told rows in it."""
    signs = rules.letters() + rules.letters().upper()
    row = ""
    while len(row) < 240:
        row += "".join(chance.choice(signs) for _ in range(chance.randrange(4)))
        if rules.rows():
            kin = sorted(plain_kin(chance.choice(rules.rows())))
            row += (chance.choice(kin) * 2)[:chance.randrange(20)]
    return row[:300]


class Checks(Raising):
    def check_product(self, rules, row):
        """Check a product of a row that is nothing, without asking is_product."""
        found = product(rules, row)
        self.assertIs(type(found), list)
        free = reduced(row)
        self.assertLessEqual(len(found), len(free))
        for step in found:
            self.assertIs(type(step), tuple)
            lead, index, sign = step
            self.assertTrue(set(lead.lower()) <= set(rules.letters()))
            self.assertLessEqual(len(lead), len(free) + 40)
            self.assertIs(type(index), int)
            self.assertIn(index, range(len(rules.rows())))
            self.assertIs(type(sign), int)
            self.assertIn(sign, (1, -1))
        self.assertEqual(product_row(rules, found), free)
        self.assertIs(is_product(rules, row, found), True)
        return found

    def check_nothing(self, rules, row):
        self.assertIs(is_nothing(rules, row), True)
        self.assertEqual(rest(rules, row), "")
        self.assertEqual(order(rules, row), 1)
        self.assertIs(same(rules, row, ""), True)
        return self.check_product(rules, row)

    def check_something(self, rules, row):
        self.assertIs(is_nothing(rules, row), False)
        self.assertNotEqual(rest(rules, row), "")
        self.assertIsNone(product(rules, row))
        self.assertIs(same(rules, row, ""), False)

    def check_rest(self, rules, row):
        """Check a rest, without asking is_nothing, same or is_rest."""
        found = rest(rules, row)
        self.assertIs(type(found), str)
        self.assertTrue(is_free(found))
        self.assertFalse(has_half(rules, found))
        self.assertLessEqual(len(found), len(reduced(row)))
        self.assertIs(is_rest(rules, found), True)
        self.check_product(rules, row + plain_back(found))
        return found


class TestInterface(unittest.TestCase):
    def test_names_and_arguments(self):
        asserted_signatures(self, nothing, {
            "is_nothing": ["rules", "row"], "same": ["rules", "one", "two"], "rest": ["rules", "row"],
            "is_rest": ["rules", "row"], "product": ["rules", "row"], "is_product": ["rules", "row", "thing"],
            "order": ["rules", "row"], "coming_round": ["rules"],
        })


class TestExamples(Checks, unittest.TestCase):
    def test_of_the_document(self):
        self.assertIs(is_nothing(DOC, "BAbaBAbaBAbaBAba"), True)
        self.assertIs(is_rest(DOC, "abABabABabABa"), False)
        self.assertIs(is_rest(DOC, "baB"), True)
        self.assertEqual(order(DOC, "abAB"), 4)

    def test_nothing(self):
        for rules, row in (
            (DOC, "abABabABabABabAB"), (DOC, ""), (DOC, "aA"), (DOC, "bABa" * 4), (DOC, "baBA" * 4), (DOC, "abAB" * 8),
            (DOC, "aaabABabABabABabABAA"), (SURFACE, "abABcdCD"), (SURFACE, "dcDCbaBA"), (SURFACE, "abABcdCDDDdd"),
            (Rules("ab", ("a",)), "a"), (Rules("ab", ("a",)), "bAB"), (Rules("ab", ("ab",)), "ba"), (Rules("a"), ""),
            (Rules("ab", ("aaaa", "bbb")), "abaaaaBA"), (Rules("ab", ("aaaa", "bbb")), "aabbbaa"),
        ):
            with self.subTest(rows=rules.rows(), row=row):
                self.check_nothing(rules, row)

    def test_something(self):
        for rules, row in (
            (DOC, "a"), (DOC, "abAB"), (DOC, "abAB" * 3), (DOC, "a" * 300), (SURFACE, "abAB"), (SURFACE, "abABcdC"),
            (Rules("ab", ("a",)), "b"), (Rules("ab", ("ab",)), "a"), (Rules("ab", ("ab",)), "aB"), (Rules("a"), "a"),
            (Rules("ab"), "abAB"), (Rules("ab", ("aaaa", "bbb")), "aa"), (Rules("ab", ("aaaa", "bbb")), "abAB"),
        ):
            with self.subTest(rows=rules.rows(), row=row):
                self.check_something(rules, row)

    def test_same(self):
        for rules, one, two, expected in (
            (DOC, "", "", True), (DOC, "aA", "Bb", True), (DOC, "abABabAB", "baBAbaBA", True), (DOC, "ab", "ba", False),
            (DOC, "abAB", "baBA", False), (SURFACE, "abAB", "dcDC", True), (SURFACE, "abAB", "cdCD", False),
            (Rules("ab", ("aB",)), "a", "b", True), (Rules("ab", ("aB",)), "a", "B", False),
            (Rules("a", ("aaaa",)), "aa", "AA", True), (Rules("a", ("aaaa",)), "a", "A", False),
            (Rules("ab"), "aAb", "b", True), (Rules("ab"), "ab", "ba", False),
        ):
            with self.subTest(rows=rules.rows(), one=one, two=two):
                self.assertIs(same(rules, one, two), expected)
                self.assertIs(same(rules, two, one), expected)
                self.assertIs(same(rules, plain_back(one), plain_back(two)), expected)


class TestWhatIsNothing(Checks, unittest.TestCase):
    def test_just_the_listed_rows(self):
        for rules, longest in LISTED:
            listed = nothing_up_to(rules, longest)
            for row in free_rows(rules.letters(), longest):
                if is_nothing(rules, row) != (row in listed):
                    self.fail((rules.rows(), row))
            for row in sorted(listed):
                self.check_nothing(rules, row)

    def test_long_listed_rows(self):
        for rules, longest in (
            (DOC, 19), (Rules("ab", ("ab" * 4,)), 12), (SURFACE, 10), (Rules("ab", ("BabbbAAAbABAB",)), 15),
        ):
            listed = sorted(nothing_up_to(rules, longest))
            self.assertGreater(len(listed), 20)
            for row in listed:
                self.check_nothing(rules, row)

    def test_powers_of_letters(self):
        chance = random.Random(10)
        for rules in POWERS:
            plain = Syllables(rules)
            signs = rules.letters() + rules.letters().upper()
            for size in list(range(12)) * 6 + [40, 300]:
                row = "".join(chance.choice(signs) for _ in range(size))
                other = "".join(chance.choice(signs) for _ in range(size))
                with self.subTest(rows=rules.rows(), row=row, other=other):
                    self.assertIs(is_nothing(rules, row), plain.normal(row) == ())
                    self.assertIs(same(rules, row, other), plain.normal(row) == plain.normal(other))
                    self.assertEqual(order(rules, row), plain.order(row))
                    self.assertEqual(plain.normal(self.check_rest(rules, row)), plain.normal(row))

    def test_products_of_told_rows(self):
        chance = random.Random(11)
        for rules in WITH_ROWS:
            for many in (1, 2, 3, 6):
                steps = random_product(chance, rules, many, 12)
                row = product_row(rules, steps)
                with self.subTest(rows=rules.rows(), steps=steps):
                    self.check_nothing(rules, row)
                    self.assertIs(is_product(rules, row, steps), True)

    def test_products_of_three_hundred_characters(self):
        chance = random.Random(12)
        for rules in WITH_ROWS:
            if len(rules.letters()) > 1:
                row, more = "", ""
                while len(more) <= 300:
                    row, more = more, reduced(more + product_row(rules, random_product(chance, rules, 1, 9)))
            else:
                row = rules.rows()[0] * (300 // len(rules.rows()[0]))
            with self.subTest(rows=rules.rows(), row=row):
                self.assertGreater(len(row), 200)
                self.check_nothing(rules, row)
                self.assertIs(same(rules, row, plain_back(row)), True)

    def test_rows_that_maps_move(self):
        chance = random.Random(13)
        moved = 0
        for rules, points in (
            (DOC, 4), (Rules("ab", ("ab" * 7,)), 4), (Rules("ab", ("abAB" * 2, "b" * 7)), 4),
            (Rules("abc", ("abc" * 3,)), 3),
        ):
            maps = holding_maps(rules, points)
            for size in list(range(1, 25)) * 3:
                row = random_row(chance, rules.letters(), size)
                if any(moves(one, rules.letters(), row) != list(range(points)) for one in maps):
                    moved += 1
                    with self.subTest(rows=rules.rows(), row=row):
                        self.check_something(rules, row)
        self.assertGreater(moved, 200)

    def test_same_rows_around(self):
        chance = random.Random(14)
        for rules in WITH_ROWS:
            row = random_row(chance, rules.letters(), 20)
            kin = sorted(plain_kin(rules.rows()[-1]))
            for at in (0, 7, 20):
                other = row[:at] + chance.choice(kin) + row[at:]
                with self.subTest(rows=rules.rows(), row=row, other=other):
                    self.assertIs(same(rules, row, other), True)
                    self.assertIs(same(rules, other, row), True)
                    self.assertIs(same(rules, row, other + row), is_nothing(rules, row))

    def test_without_told_rows(self):
        for row in all_rows("ab", 5):
            rules = Rules("ab")
            self.assertEqual(rest(rules, row), reduced(row))
            self.assertIs(is_nothing(rules, row), reduced(row) == "")
            self.assertEqual(product(rules, row), [] if reduced(row) == "" else None)
            self.assertEqual(order(rules, row), 1 if reduced(row) == "" else None)
            self.assertIs(is_rest(rules, row), is_free(row))


class TestRest(Checks, unittest.TestCase):
    def test_small_rows(self):
        for rules in SHORT:
            size = {1: 8, 2: 4, 3: 3, 4: 2}[len(rules.letters())]
            for row in all_rows(rules.letters(), size):
                self.check_rest(rules, row)

    def test_rows_of_three_hundred_characters(self):
        chance = random.Random(15)
        for rules in SHORT:
            for _ in range(3):
                row = long_row(chance, rules)
                with self.subTest(rows=rules.rows(), row=row):
                    self.check_rest(rules, row)

    def test_just_half_may_stay(self):
        self.assertEqual(rest(DOC, "abABabAB"), "abABabAB")
        self.assertLess(len(rest(DOC, "abABabABa")), 8)
        self.assertEqual(rest(SURFACE, "abAB"), "abAB")
        self.assertEqual(rest(SURFACE, "abABc"), "dcD")
        self.assertEqual(rest(Rules("ab", ("aaaaa",)), "aaa"), "AA")
        self.assertEqual(rest(Rules("ab", ("aaaaa",)), "bAAAb"), "baab")
        self.assertEqual(rest(Rules("ab", ("aaaaaa",)), "aaa"), "aaa")
        self.assertEqual(rest(Rules("ab", ("aaaaaa",)), "aaaa"), "AA")

    def test_a_rest_may_touch_what_was_there(self):
        rules = Rules("ab", ("aaaa", "bbb"))
        self.assertEqual(len(rest(rules, "aabbbaab")), 1)
        self.assertEqual(rest(SURFACE, "DabABcd"), reduced("c"))

    def test_what_is_returned_is_passed_on(self):
        row = joined(["abABcdCD" * 30 + "a"] * 40)
        self.assertGreater(len(row), 300)
        self.assertEqual(rest(SURFACE, row), "a" * 40)
        self.assertIs(is_rest(SURFACE, row), False)
        self.assertIs(same(SURFACE, row, "a" * 40), True)
        self.assertIsNone(order(SURFACE, row))


class TestIsRest(Checks, unittest.TestCase):
    def test_by_asking_each_kin(self):
        seen = {True: 0, False: 0}
        for rules in SHORT:
            size = {1: 8, 2: 6, 3: 3, 4: 3}[len(rules.letters())]
            halves = plain_halves(rules)
            for row in all_rows(rules.letters(), size):
                expected = is_free(row) and not has_half(rules, row, halves)
                self.assertIs(is_rest(rules, row), expected, (rules.rows(), row))
                seen[expected] += 1
        self.assertGreater(min(seen.values()), 1000)

    def test_parts_of_kin(self):
        for rules in WITH_ROWS:
            for told in rules.rows():
                for kin in plain_kin(told):
                    for size in range(1, len(kin) + 1):
                        self.assertIs(is_rest(rules, kin[:size]), 2 * size <= len(told), (rules.rows(), kin, size))

    def test_rows_that_are_not_free(self):
        for row in ("aA", "abBa", "bbaAbb", "Aabb"):
            self.assertIs(is_rest(DOC, row), False)
            self.assertIs(is_rest(Rules("ab"), row), False)
        self.assertIs(is_rest(DOC, ""), True)
        self.assertIs(is_rest(DOC, "ab" * 150), True)


class TestIsProduct(Checks, unittest.TestCase):
    rules = Rules("ab", ("abAB" * 4, "aab"))

    def test_empty(self):
        for rules in (DOC, Rules("ab"), self.rules):
            for row in ("", "aA", "abBA"):
                self.assertIs(is_product(rules, row, []), True)
            for row in ("a", "abAB" * 4):
                self.assertIs(is_product(rules, row, []), False)

    def test_ordinary(self):
        for row, thing in (
            ("abAB" * 4, [("", 0, 1)]), ("baBA" * 4, [("", 0, -1)]), ("aab", [("", 1, 1)]), ("aba", [("A", 1, 1)]),
            ("BAA", [("", 1, -1)]), ("", [("b", 1, 1), ("b", 1, -1)]), ("aabaab", [("", 1, 1), ("", 1, 1)]),
            ("baabB", [("b", 1, 1)]), ("baa", [("bBb", 1, 1)]), ("baa", [("bbB", 1, 1)]),
            ("aabBAbaab", [("", 1, 1), ("BAb", 1, 1)]),
        ):
            with self.subTest(row=row, thing=thing):
                self.assertEqual(product_row(self.rules, thing) == reduced(row), is_product(self.rules, row, thing))
        self.assertIs(is_product(self.rules, "baa", [("b", 1, 1)]), True)
        self.assertIs(is_product(self.rules, "baaaA", [("bBb", 1, 1)]), True)
        self.assertIs(is_product(self.rules, "aab", [("", 1, -1)]), False)
        self.assertIs(is_product(self.rules, "aab", [("", 0, 1)]), False)
        self.assertIs(is_product(self.rules, "aab", [("b", 1, 1)]), False)
        self.assertIs(is_product(self.rules, "aab", [("", 1, 1), ("", 1, 1)]), False)

    def test_the_order_of_the_tuples_counts(self):
        steps = [("", 0, 1), ("b", 1, -1), ("A", 1, 1)]
        row = product_row(self.rules, steps)
        self.assertIs(is_product(self.rules, row, steps), True)
        self.assertIs(is_product(self.rules, row, steps[::-1]), False)
        self.assertIs(is_product(self.rules, row, steps[1:] + steps[:1]), False)

    def test_rules_that_are_not_short(self):
        chance = random.Random(16)
        for rules in NOT_SHORT:
            steps = random_product(chance, rules, 5, 8)
            row = product_row(rules, steps)
            self.assertIs(is_product(rules, row, steps), True)
            self.assertIs(is_product(rules, row + rules.letters()[0], steps), False)
            self.assertIs(is_product(rules, row, None), False)

    def test_all_other_values(self):
        good = ("a", 1, 1)
        row = product_row(self.rules, [good])
        self.assertIs(is_product(self.rules, row, [good]), True)
        for thing in (
            None, True, False, 0, 1, "", "abc", b"", (), {}, set(), object(), (good,), good, {good}, {good: 1},
            {0: good},
            iter([good]), [list(good)], [good, None], [good, ()], [good, []], [()], [("a", 1)], [("a", 1, 1, 1)],
            [good + (0,)], ["a11"], [{"a": 1}], [[good]], [(good,)], [None], [1], [True],
        ):
            with self.subTest(thing=thing):
                self.assertIs(is_product(self.rules, row, thing), False)
                self.assertIs(is_product(rules=self.rules, row=row, thing=thing), False)

    def test_wrong_parts_of_tuples(self):
        row = product_row(self.rules, [("a", 1, 1)])
        self.assertIs(is_product(self.rules, "", [("", 1, 1), ("", 1, -1)]), True)
        for lead in NOT_ROWS + ("c", "aC", "abcABC"):
            self.assertIs(is_product(self.rules, row, [(lead, 1, 1)]), False)
            self.assertIs(is_product(self.rules, "", [(lead, 1, 1), (lead, 1, -1)]), False)
        for index in (None, True, False, "1", 1.0, -1, 2, 10 ** 59, (1,), [1], -2):
            self.assertIs(is_product(self.rules, row, [("a", index, 1)]), False)
            self.assertIs(is_product(self.rules, "", [("a", index, 1), ("a", index, -1)]), False)
        for sign in (None, True, False, 0, 2, -2, "1", "+", 1.0, -1.0, [1], (1,), 10 ** 59):
            self.assertIs(is_product(self.rules, row, [("a", 1, sign)]), False)
        self.assertIs(is_product(Rules("ab"), "", [("", 0, 1), ("", 0, -1)]), False)

    def test_three_hundred_tuples(self):
        lead = "ab" * 150
        thing = [(lead, 1, 1), (lead, 1, -1)] * 150
        self.assertIs(is_product(self.rules, "", thing), True)
        self.assertIs(is_product(self.rules, "", thing[1:]), False)

    def test_products_that_are_changed(self):
        chance = random.Random(17)
        for rules in (DOC, SURFACE, Rules("ab", ("a" * 7, "b" * 7, "abAB" * 2))):
            row = product_row(rules, random_product(chance, rules, 4, 6))
            found = product(rules, row)
            self.assertGreater(len(found), 1)
            for at, (lead, index, sign) in enumerate(found):
                for other in ([], [(lead, index, -sign)], [(lead + "ab", index, sign)]):
                    changed = found[:at] + other + found[at + 1:]
                    self.assertIs(is_product(rules, row, changed), product_row(rules, changed) == reduced(row))
            self.assertIs(is_product(rules, row, found[1:]), False)
            self.assertIs(is_product(rules, row, [found[0]] + found), False)
            self.assertIs(is_product(rules, row, tuple(found)), False)


class TestOrder(Checks, unittest.TestCase):
    def test_roots_and_their_powers(self):
        for rules in WITH_ROWS:
            for told in rules.rows():
                base, times = root(told)
                for number in range(times + 2):
                    expected = next(many for many in range(1, 41) if many * number % times == 0)
                    for lead in ("", rules.letters()[-1], plain_back(rules.letters()) * 2):
                        row = lead + base * number + plain_back(lead)
                        with self.subTest(rows=rules.rows(), row=row):
                            self.assertEqual(order(rules, row), expected)
                            self.assertEqual(order(rules, plain_back(row)), expected)

    def test_examples(self):
        for rules, row, expected in (
            (DOC, "", 1), (DOC, "aA", 1), (DOC, "abAB" * 4, 1), (DOC, "abAB", 4), (DOC, "abAB" * 2, 2),
            (DOC, "abAB" * 3, 4),
            (DOC, "bABa", 4), (DOC, "abbABB", None), (DOC, "a", None), (DOC, "ab", None), (DOC, "abA", None),
            (SURFACE, "abAB", None), (SURFACE, "a", None), (SURFACE, "abABcdCD", 1), (Rules("ab", ("a",)), "a", 1),
            (Rules("ab", ("a",)), "b", None), (Rules("ab"), "", 1), (Rules("ab"), "a", None),
            (Rules("a", ("a" * 40,)), "a" * 300, 2), (Rules("a", ("a" * 40,)), "a" * 299, 40),
            (Rules("a", ("a" * 40,)), "a" * 280, 1), (Rules("ab", ("a" * 6, "B" * 10)), "bbabBABB", 1),
            (Rules("ab", ("a" * 6, "B" * 10)), "baaB", 3), (Rules("ab", ("a" * 6, "B" * 10)), "abbA", 5),
            (Rules("ab", ("a" * 6, "B" * 10)), "ab", None), (Rules("ab", ("a" * 6, "B" * 10)), "abAB", None),
        ):
            with self.subTest(rows=rules.rows(), row=row):
                self.assertEqual(order(rules, row), expected)
                if expected is not None:
                    self.assertIs(type(order(rules, row)), int)

    def test_the_least_number(self):
        chance = random.Random(18)
        found = set()
        for rules in WITH_ROWS:
            base = root(rules.rows()[-1])[0]
            for _ in range(6):
                lead = random_row(chance, rules.letters(), chance.randrange(9))
                middle = chance.choice([base, base * 2, base * 3, random_row(chance, rules.letters(), 3)])
                row = lead + middle + plain_back(lead)
                times = order(rules, row)
                found.add(times)
                for many in range(1, 41):
                    expected = times is not None and many % times == 0
                    self.assertIs(is_nothing(rules, row * many), expected, (rules.rows(), row, many))
        self.assertTrue({None, 1, 2, 3} <= found)

    def test_long_rings(self):
        chance = random.Random(19)
        found = {None: 0, 1: 0, 2: 0, 3: 0}
        for rules in WITH_ROWS:
            for _ in range(8):
                told = chance.choice(rules.rows())
                base, times = root(told)
                row = chance.choice([base * chance.randrange(times), random_row(chance, rules.letters(), 50)])
                lead = random_row(chance, rules.letters(), 30)
                row = lead + row + plain_back(lead)
                # Put in here and there, told rows leave the order as it is, but make the ring long.
                for at in (0, len(row) // 2, len(row)):
                    row = row[:at] + product_row(rules, random_product(chance, rules, 1, 9)) + row[at:]
                row = row[9:] + row[:9]
                times = order(rules, row)
                found[times] = found.get(times, 0) + 1
                for many in range(1, 13):
                    expected = times is not None and many % times == 0
                    self.assertIs(is_nothing(rules, row * many), expected, (rules.rows(), row, many))
        self.assertGreater(min(found[times] for times in (None, 1, 2, 3)), 5, found)

    def test_just_as_long_as_a_told_row(self):
        for size in (38, 39, 40, 41, 42, 43):
            base = ("aab" + "ab" * 20)[:size]
            self.assertIsNone(order(DOC, base + "b"))
            for rules in (Rules("ab", ("ab" * 20,)), Rules("ab", ("aB" * 20,))):
                row = "ab" * (size // 2)
                expected = next((times for times in range(1, 21) if is_nothing(rules, row * times)), None)
                self.assertEqual(order(rules, row), expected)

    def test_rows_of_three_hundred_characters(self):
        lead = "aab" * 49
        self.assertEqual(order(DOC, lead + "abAB" + plain_back(lead)), 4)
        self.assertIsNone(order(DOC, lead + lead))
        self.assertEqual(order(Rules("ab", ("ab" * 20,)), "ab" * 150), 2)


class TestComingRound(unittest.TestCase):
    def test_examples(self):
        for rules, expected in (
            (DOC, [(0, "abAB", 4)]), (SURFACE, []), (Rules("ab"), []), (Rules("a", ("a",)), []),
            (Rules("a", ("aa",)), [(0, "a", 2)]),
            (Rules("a", ("A" * 40,)), [(0, "A", 40)]), (Rules("ab", ("a", "bb")), [(1, "b", 2)]),
            (Rules("ab", ("bb", "a")), [(0, "b", 2)]),
            (Rules("xyz", ("xxx", "yy", "zzzz")), [(0, "x", 3), (1, "y", 2), (2, "z", 4)]),
            (Rules("abcd", ("abABcdCD" * 3, "d" * 7, "a" * 8)), [(0, "abABcdCD", 3), (1, "d", 7), (2, "a", 8)]),
            (Rules("abcd", ("DDACbAAbdAcDBBadcbCb", "a" * 13)), [(1, "a", 13)]),
        ):
            with self.subTest(rows=rules.rows()):
                found = coming_round(rules)
                self.assertIs(type(found), list)
                self.assertEqual(found, expected)

    def test_each_comes_round(self):
        for rules in SHORT:
            for index, base, times in coming_round(rules):
                self.assertGreaterEqual(times, 2)
                self.assertEqual(base * times, rules.rows()[index])
                self.assertEqual(order(rules, base), times)


class TestWrong(Raising, unittest.TestCase):
    one_row = (is_nothing, rest, is_rest, product, order)

    def test_no_row(self):
        for value in NOT_ROWS + ("c", "abC", "abABz", "Z"):
            with self.subTest(value=value):
                for rules in (DOC, Rules("ab"), NOT_SHORT[0]):
                    for function in self.one_row:
                        self.assert_raises("NoRow", function, rules, value)
                        self.assert_raises("NoRow", function, rules=rules, row=value)
                    self.assert_raises("NoRow", same, rules, value, "ab")
                    self.assert_raises("NoRow", same, rules, "ab", value)
                    self.assert_raises("NoRow", same, rules, two=value, one=value)
                    for thing in ([], None, [("", 0, 1)]):
                        self.assert_raises("NoRow", is_product, rules, value, thing)

    def test_the_letters_of_the_rules(self):
        rules = Rules("bx", ("bbb",))
        for row in ("a", "A", "c", "xay", "bY"):
            for function in self.one_row:
                self.assert_raises("NoRow", function, rules, row)
            self.assert_raises("NoRow", same, rules, row, "b")
            self.assert_raises("NoRow", same, rules, "b", row)
            self.assert_raises("NoRow", is_product, rules, row, [])
        self.assertIs(is_nothing(rules, "xBBBX"), True)

    def test_not_short(self):
        for rules in NOT_SHORT:
            for row in ("", "a", "abAB"):
                with self.subTest(rows=rules.rows(), row=row):
                    for function in self.one_row:
                        self.assert_raises("NotShort", function, rules, row)
                    self.assert_raises("NotShort", same, rules, row, "")
                    self.assert_raises("NotShort", coming_round, rules)
                    self.assertIs(is_product(rules, row, []), row == "")


if __name__ == "__main__":
    unittest.main()
