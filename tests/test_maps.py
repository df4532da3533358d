import random
import unittest
from itertools import permutations, product

from sixthrows import maps as module
from sixthrows.maps import map_holds, maps, moved, parting_map
from sixthrows.nothing import rest
from sixthrows.rules import Rules
from tests.samples import (
    DOC, NOT_INTEGERS, NOT_ROWS, NOT_SHORT, NOT_STRINGS, POWERS, SHORT, SURFACE, Raising, asserted_signatures,
    free_rows, holding_maps, moves, plain_back, product_row, random_product, random_row, turned,
)

SWAP = (1, 0)
STILL = (0, 1)
ALL_RULES = SHORT + NOT_SHORT
MANY_LETTERS = (Rules("abc"), Rules("abcd"), Rules("xyz", ("xxx", "yy", "zzzz")), SURFACE)
# Just the lists that are more than may be looked through.
TOO_MANY = tuple((rules, 4) for rules in MANY_LETTERS)


def may_ask(rules, points):
    return points < 4 or len(rules.letters()) < 3


def random_map(chance, letters, points):
    return [tuple(chance.sample(range(points), points)) for _ in letters]


def followed(letters, images, row, point):
    """The point that a row leads a point to, character by character."""
    for char in row:
        pairs = list(enumerate(images[letters.index(char.lower())]))
        steps = dict(pairs) if char.islower() else {later: earlier for earlier, later in pairs}
        point = steps[point]
    return point


class TestInterface(unittest.TestCase):
    def test_names_and_arguments(self):
        asserted_signatures(self, module, {
            "moved": ["letters", "images", "row"], "map_holds": ["rules", "images"], "maps": ["rules", "points"],
            "parting_map": ["rules", "row", "points"],
        })


class TestMoved(unittest.TestCase):
    def test_examples(self):
        images = [(1, 0, 2), (1, 2, 0)]
        for row, expected in (
            ("", (0, 1, 2)), ("a", (1, 0, 2)), ("A", (1, 0, 2)), ("b", (1, 2, 0)), ("B", (2, 0, 1)), ("ab", (2, 1, 0)),
            ("ba", (0, 2, 1)), ("bb", (2, 0, 1)), ("bbb", (0, 1, 2)), ("bB", (0, 1, 2)), ("abAB", (1, 2, 0)),
        ):
            with self.subTest(row=row):
                self.assertEqual(moved("ab", images, row), expected)
                self.assertIs(type(moved("ab", images, row)), tuple)

    def test_one_point_and_six(self):
        for letters in ("a", "ab", "wxyz"):
            row = letters + letters.upper() * 2
            self.assertEqual(moved(letters, [(0,)] * len(letters), row), (0,))
        around = (1, 2, 3, 4, 5, 0)
        for times in range(14):
            found = moved("a", [around], "a" * times)
            self.assertEqual(found, tuple((at + times) % 6 for at in range(6)))
            self.assertEqual(moved("a", [around], "A" * times), tuple((at - times) % 6 for at in range(6)))

    def test_each_point_character_by_character(self):
        chance = random.Random(170)
        for letters in ("a", "z", "ab", "cx", "abc", "abcd", "kmpz"):
            signs = letters + letters.upper()
            for points in range(1, 7):
                for size in (0, 1, 2, 3, 9, 40):
                    images = random_map(chance, letters, points)
                    row = "".join(chance.choice(signs) for _ in range(size))
                    expected = tuple(followed(letters, images, row, point) for point in range(points))
                    with self.subTest(images=images, row=row):
                        self.assertEqual(moved(letters, images, row), expected)
                        self.assertEqual(moves(images, letters, row), list(expected))

    def test_rows_and_their_backs(self):
        chance = random.Random(171)
        for points in range(1, 7):
            images = random_map(chance, "abc", points)
            row = "".join(chance.choice("abcABC") for _ in range(150))
            self.assertEqual(moved("abc", images, row + plain_back(row)), tuple(range(points)))
            there, back = moved("abc", images, row), moved("abc", images, plain_back(row))
            self.assertEqual([back[place] for place in there], list(range(points)))

    def test_three_hundred_characters_and_more(self):
        chance = random.Random(172)
        images = random_map(chance, "ab", 6)
        for size in (300, 2000):
            row = "".join(chance.choice("abAB") for _ in range(size))
            self.assertEqual(moved("ab", images, row), tuple(followed("ab", images, row, at) for at in range(6)))

    def test_the_order_of_the_letters(self):
        self.assertEqual(moved("ab", [SWAP, STILL], "a"), SWAP)
        self.assertEqual(moved("ab", [SWAP, STILL], "b"), STILL)
        self.assertEqual(moved("bx", [SWAP, STILL], "b"), SWAP)
        self.assertEqual(moved("bx", [SWAP, STILL], "XbX"), SWAP)


class TestMapHolds(unittest.TestCase):
    def test_examples(self):
        for rules, images, expected in (
            (DOC, [SWAP, SWAP], True), (DOC, [(1, 0, 2), (0, 2, 1)], False), (Rules("ab", ("ab",)), [SWAP, SWAP], True),
            (DOC, [(1, 0, 2, 3), (0, 2, 3, 1)], False), (DOC, [(1, 2, 3, 0), (1, 0, 2, 3)], False),
            (Rules("ab", ("ab",)), [SWAP, STILL], False), (Rules("a", ("aaa",)), [(1, 2, 0)], True),
            (Rules("a", ("aaa",)), [(1, 0, 2)], False), (Rules("a", ("AAA",)), [(2, 0, 1)], True),
            (Rules("ab"), [SWAP, SWAP], True), (Rules("ab"), [(5, 4, 3, 2, 1, 0), (1, 2, 3, 4, 5, 0)], True),
            (Rules("a", ("a" * 6,)), [(1, 2, 3, 4, 5, 0)], True), (Rules("a", ("a" * 7,)), [(1, 2, 3, 4, 5, 0)], False),
            (Rules("ab", ("abAB",)), [(1, 2, 0), (2, 0, 1)], True),
            (Rules("ab", ("abAB",)), [(1, 2, 0), (1, 0, 2)], False),
            (Rules("ab", ("aa", "bb")), [SWAP, STILL], True), (Rules("ab", ("aa", "b")), [SWAP, SWAP], False),
            (Rules("ab", ("b", "aa")), [SWAP, SWAP], False), (Rules("ab", ("a",)), [(0,), (0,)], True),
        ):
            with self.subTest(rows=rules.rows(), images=images):
                self.assertIs(map_holds(rules, images), expected)

    def test_by_following_each_point(self):
        chance = random.Random(173)
        seen = {True: 0, False: 0}
        for rules in ALL_RULES:
            letters = rules.letters()
            for points in range(1, 7):
                for _ in range(12):
                    images = random_map(chance, letters, points)
                    expected = all(
                        followed(letters, images, row, at) == at for row in rules.rows() for at in range(points)
                    )
                    seen[expected] += 1
                    with self.subTest(rows=rules.rows(), images=images):
                        self.assertIs(map_holds(rules, images), expected)
        self.assertGreater(min(seen.values()), 300)


class TestMaps(unittest.TestCase):
    def check(self, rules, points):
        found = maps(rules, points)
        expected = sorted([list(one) for one in holding_maps(rules, points)])
        self.assertIs(type(found), list)
        for images in found:
            self.assertIs(type(images), list)
            self.assertTrue(all(type(image) is tuple for image in images))
        self.assertEqual(found, expected)
        return found

    def test_examples(self):
        self.assertEqual(maps(Rules("a", ("aa",)), 2), [[STILL], [SWAP]])
        self.assertEqual(maps(Rules("a", ("aaa",)), 2), [[STILL]])
        self.assertEqual(maps(Rules("a", ("aaa",)), 3), [[(0, 1, 2)], [(1, 2, 0)], [(2, 0, 1)]])
        self.assertEqual(maps(Rules("ab", ("ab",)), 2), [[STILL, STILL], [SWAP, SWAP]])
        self.assertEqual(maps(Rules("ab"), 1), [[(0,), (0,)]])

    def test_by_listing_all_lists(self):
        for rules in ALL_RULES:
            for points in range(1, 5):
                if may_ask(rules, points):
                    with self.subTest(letters=rules.letters(), rows=rules.rows(), points=points):
                        self.assertGreaterEqual(len(self.check(rules, points)), 1)

    def test_without_told_rows(self):
        for letters, points, expected in (
            ("a", 1, 1), ("a", 2, 2), ("a", 3, 6), ("a", 4, 24), ("ab", 1, 1), ("ab", 2, 4), ("ab", 3, 36),
            ("ab", 4, 576), ("abc", 2, 8), ("abc", 3, 216), ("abcd", 1, 1), ("abcd", 2, 16), ("abcd", 3, 1296),
        ):
            with self.subTest(letters=letters, points=points):
                self.assertEqual(len(self.check(Rules(letters), points)), expected)

    def test_how_many(self):
        # Each letter by itself, or as many pairs that change places as there are kinds times permutations.
        for rules, points, expected in (
            (Rules("ab", ("aa", "bbb")), 3, 4 * 3), (Rules("ab", ("aa", "bbb")), 4, 10 * 9),
            (Rules("ab", ("aaaa", "bbb")), 4, 16 * 9), (Rules("ab", ("abAB",)), 3, 3 * 6),
            (Rules("ab", ("abAB",)), 4, 5 * 24), (Rules("abc", ("aa", "bb", "cc")), 3, 4 ** 3),
            (Rules("abcd", ("aa", "bb", "cc", "dd")), 3, 4 ** 4), (Rules("abcd", ("a", "b", "c")), 3, 6),
        ):
            with self.subTest(rows=rules.rows(), points=points):
                self.assertEqual(len(maps(rules, points)), expected)

    def test_each_holds(self):
        for rules in (DOC, SURFACE, Rules("ab", ("ab" * 7,)), NOT_SHORT[0]):
            for images in maps(rules, 3):
                self.assertIs(map_holds(rules, images), True)

    def test_lists_are_new(self):
        rules = Rules("ab", ("aa", "bb"))
        first = maps(rules, 2)
        before = [list(one) for one in first]
        for images in first:
            images[0] = None
            images.append("more")
        first.append("more")
        self.assertEqual(maps(rules, 2), before)
        one = parting_map(rules, "a", 2)
        one.clear()
        self.assertNotEqual(parting_map(rules, "a", 2), [])
        self.assertEqual(maps(rules, 2), before)


class TestPartingMap(unittest.TestCase):
    def check(self, rules, row, points, holding=None):
        """Check a parting map against all maps that hold, found by listing all lists."""
        found = parting_map(rules, row, points)
        holding = holding_maps(rules, points) if holding is None else holding
        parting = [list(one) for one in holding if moves(one, rules.letters(), row) != list(range(points))]
        if found is None:
            self.assertEqual(parting, [], (rules.rows(), row))
        else:
            self.assertIs(type(found), list)
            self.assertIn(found, parting, (rules.rows(), row))
        return found

    def test_examples(self):
        self.assertEqual(parting_map(Rules("a", ("aa",)), "a", 2), [SWAP])
        self.assertEqual(parting_map(Rules("a", ("aa",)), "aAa", 2), [SWAP])
        self.assertEqual(parting_map(Rules("ab", ("ab",)), "b", 2), [SWAP, SWAP])
        self.assertIsNone(parting_map(Rules("a", ("aaa",)), "a", 2))
        self.assertIsNone(parting_map(Rules("a", ("aa",)), "aa", 4))
        self.assertIsNone(parting_map(Rules("ab", ("ab",)), "ba", 4))
        self.assertIn(parting_map(Rules("a", ("aaa",)), "a", 3), ([(1, 2, 0)], [(2, 0, 1)]))

    def test_rows_that_are_left_where_they_are(self):
        for rules in ALL_RULES:
            rows = ["", rules.letters()[0] + rules.letters()[0].upper()] + list(rules.rows())
            rows += [plain_back(row) for row in rules.rows()] + [other for row in rules.rows() for other in turned(row)]
            for row in rows:
                self.assertIsNone(parting_map(rules, row, 1))
                self.assertIsNone(parting_map(rules, row, 2))
            self.assertIsNone(parting_map(rules, rows[-1], 3))
        self.assertIsNone(parting_map(Rules("a"), "a" * 12, 4))
        self.assertIsNotNone(parting_map(Rules("a"), "a" * 13, 4))
        self.assertIsNone(parting_map(Rules("ab"), "abABaabABA" + plain_back("abABaabABA"), 4))

    def test_products_of_told_rows(self):
        chance = random.Random(174)
        for rules in ALL_RULES:
            if rules.rows():
                row = product_row(rules, random_product(chance, rules, 3, 9))
                for points in (1, 2, 3):
                    self.assertIsNone(parting_map(rules, row, points))

    def test_small_rows(self):
        for rules in (DOC, Rules("ab", ("aaaa", "bbb")), Rules("ab"), NOT_SHORT[0], Rules("ab", ("ab" * 7,))):
            found = {True: 0, False: 0}
            for points in (1, 2, 3):
                holding = holding_maps(rules, points)
                for row in free_rows("ab", 3):
                    found[self.check(rules, row, points, holding) is None] += 1
            self.assertGreater(min(found.values()), 0)

    def test_four_points(self):
        holding = holding_maps(DOC, 4)
        for row in ("a", "b", "ab", "abAB", "abABabAB", "aabb", "aaaa", "aaa"):
            self.check(DOC, row, 4, holding)
        # By two or three points the letters change places or come round too soon.
        self.assertIsNone(parting_map(DOC, "abAB", 2))

    def test_many_letters_and_long_rows(self):
        chance = random.Random(175)
        for rules in (SURFACE, Rules("abcd"), Rules("abc", ("aa", "ccc"))):
            holding = holding_maps(rules, 3)
            for size in (1, 5, 30, 300):
                self.check(rules, random_row(chance, rules.letters(), size), 3, holding)

    def test_rows_that_are_parted_are_not_the_same(self):
        chance = random.Random(176)
        parted = 0
        for rules in POWERS + (DOC, SURFACE):
            for size in range(1, 8):
                row = random_row(chance, rules.letters(), size)
                if parting_map(rules, row, 3) is not None:
                    parted += 1
                    self.assertNotEqual(rest(rules, row), "")
        self.assertGreater(parted, 40)


class TestWrong(Raising, unittest.TestCase):
    def test_no_letters(self):
        for value in NOT_STRINGS + ("", "ba", "aa", "A", "aB", "abcde", "a b", "a1", "abca"):
            for images, row in (([(0,)], "a"), (None, None), ([SWAP, SWAP], "ab")):
                with self.subTest(value=value):
                    self.assert_raises("NoLetters", moved, value, images, row)
                    self.assert_raises("NoLetters", moved, row=row, images=images, letters=value)

    def wrong_maps(self):
        """Values that are no map of two letters."""
        wrong = [
            [], [STILL], [STILL] * 3, [STILL] * 300, (STILL, SWAP), {0: STILL, 1: SWAP}, [(), ()], [(0,), STILL],
            [STILL, (0,)],
            [(0, 1, 2), STILL], [list(STILL), STILL], [STILL, list(STILL)], [[0, 1], [1, 0]], ["01", "10"],
            [(1, 2), (1, 2)], [(1, 2), STILL], [(0, 0), STILL], [STILL, (1, 1)], [(0, 2), STILL], [(-1, 0), STILL],
            [(0, -2), STILL],
            [STILL, (0, 10 ** 59)], [tuple(range(7))] * 2, [tuple(range(300))] * 2, [STILL, None], [None, STILL],
            [STILL, "ab"],
            [(0.0, 1.0), STILL], [("0", "1"), STILL], [(None, 0), STILL], [(0, [1]), STILL], [((0,), (1,)), STILL],
            [(0, {}), STILL],
            [(False, True), STILL], [STILL, (True, False)], [(0, True), STILL], [(False,), (0,)], [(0,), (False,)],
            [STILL, 3], [SWAP, (0, 1, 2)], "ab",
        ]
        return wrong + [value for value in NOT_STRINGS if not isinstance(value, list)]

    def test_no_map(self):
        for value in self.wrong_maps():
            with self.subTest(value=value):
                for row in ("ab", "", "c", None):
                    self.assert_raises("NoMap", moved, "ab", value, row)
                    self.assert_raises("NoMap", moved, letters="ab", images=value, row=row)
                for rules in (DOC, Rules("ab"), NOT_SHORT[0]):
                    self.assert_raises("NoMap", map_holds, rules, value)
                    self.assert_raises("NoMap", map_holds, images=value, rules=rules)

    def test_as_many_as_letters(self):
        for letters in ("a", "ab", "abc", "abcd"):
            for many in range(7):
                images = [SWAP] * many
                if many == len(letters):
                    self.assertEqual(moved(letters, images, letters[-1]), SWAP)
                    self.assertIs(map_holds(Rules(letters), images), True)
                else:
                    self.assert_raises("NoMap", moved, letters, images, "")
                    self.assert_raises("NoMap", map_holds, Rules(letters), images)

    def test_all_lists_of_few_numbers(self):
        for size in range(4):
            for image in product(range(-1, 4), repeat=size):
                if size > 0 and sorted(image) == list(range(size)):
                    self.assertEqual(moved("a", [image], "a"), image)
                else:
                    self.assert_raises("NoMap", moved, "a", [image], "a")

    def test_six_points_and_seven(self):
        for points in range(1, 10):
            image = tuple(range(points))[::-1]
            if points <= 6:
                self.assertEqual(moved("a", [image], "a"), image)
                self.assertIs(map_holds(Rules("a", ("aa",)), [image]), True)
            else:
                self.assert_raises("NoMap", moved, "a", [image], "a")
                self.assert_raises("NoMap", map_holds, Rules("a", ("aa",)), [image])

    def test_no_row(self):
        for value in NOT_ROWS + ("c", "abC", "Z"):
            with self.subTest(value=value):
                self.assert_raises("NoRow", moved, "ab", [SWAP, STILL], value)
                self.assert_raises("NoRow", moved, letters="ab", images=[SWAP, STILL], row=value)
                for points in (2, 0, 5, None, True, 4):
                    self.assert_raises("NoRow", parting_map, DOC, value, points)
                    self.assert_raises("NoRow", parting_map, points=points, row=value, rules=DOC)
                self.assert_raises("NoRow", parting_map, Rules("abx"), [value], 4)

    def test_no_points(self):
        for value in NOT_INTEGERS + (0, 5, 6, -1, -4, 40, 10 ** 59, -10 ** 59, 2.0, [2], (2,), "2"):
            for rules in (DOC, Rules("a"), Rules("abcd"), NOT_SHORT[0]):
                with self.subTest(value=value):
                    self.assert_raises("NoPoints", maps, rules, value)
                    self.assert_raises("NoPoints", maps, points=value, rules=rules)
                    self.assert_raises("NoPoints", parting_map, rules, "a", value)
                    self.assert_raises("NoPoints", parting_map, rules=rules, row="", points=value)

    def test_too_many(self):
        for rules, points in TOO_MANY:
            self.assert_raises("TooMany", maps, rules, points)
            self.assert_raises("TooMany", maps, points=points, rules=rules)
            self.assert_raises("TooMany", parting_map, rules, "", points)
            self.assert_raises("TooMany", parting_map, rules, rules.letters(), points)
            self.assertGreater(len(list(permutations(range(points)))) ** len(rules.letters()), 2000)
            for fewer in range(1, points):
                self.assertGreaterEqual(len(maps(rules, fewer)), 1)
                self.assertIsNone(parting_map(rules, "", fewer))

    def test_rules_need_not_be_short(self):
        for rules in NOT_SHORT:
            for points in (1, 2, 3):
                self.assertGreaterEqual(len(maps(rules, points)), 1)
                self.assertIsNone(parting_map(rules, rules.rows()[0], points))


if __name__ == "__main__":
    unittest.main()
