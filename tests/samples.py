"""Values and ways of asking that several tests share."""

import inspect
from itertools import permutations, product

from sixthrows import errors
from sixthrows.rules import Rules

ONE_STRING = (
    "NoRow", "NoLetters", "NoIndex", "NoTimes", "NotShort", "NoMatch", "NoLength", "TooMany",
    "NoMap", "NoPoints", "NoProduct", "NothingToUndo", "NoOrder",
)
WITH_FIELD = (("NoRows", "index"), ("NoText", "line"))
OWN_NAMES = ONE_STRING + tuple(name for name, _ in WITH_FIELD)

NOT_STRINGS = (
    None, True, False, 0, 1, -1, 10 ** 60, 1.5, 2j, b"", b"ab", bytearray(b"ab"), [], ["a"],
    (), ("a",), {}, {"a": 1}, set(), {"a"}, frozenset(), object(), str, len, range(3), ...,
)
NOT_ROW_STRINGS = (
    " ", "a b", " ab", "ab ", "a1", "2", "-", "a-", "a.b", "_", "a_b", "\n", "ab\n", "\nab",
    "a\tb", "ab\t", "@", "[", "`", "{", "a@", "a[", "a`", "a{", "a,b", "'", "\"", "\\", "~",
    "\u00e9", "a\u00df", "\u0430", "\uff41", "\u212a", "\u00aa",
)
NOT_ROWS = NOT_STRINGS + NOT_ROW_STRINGS

NOT_INTEGERS = (
    None, True, False, 0.0, 1.0, "0", "1", "", b"0", [], [0], (), (0,), {}, {0: 0}, set(), {0},
    object(), int, len, range(3),
)


def all_rows(letters, longest):
    """All rows of these letters and their backs with at most so many characters."""
    signs = letters + letters.upper()
    return ["".join(chars) for size in range(longest + 1) for chars in product(signs, repeat=size)]


def is_free(row):
    return all(one != two.swapcase() for one, two in zip(row, row[1:]))


def free_rows(letters, longest):
    """All free rows of at most so many characters, shorter ones first, ascending among those of one size."""
    rows = fresh = [""]
    for _ in range(longest):
        signs = letters.upper() + letters
        fresh = [row + sign for row in fresh for sign in signs if row[-1:] != sign.swapcase()]
        rows = rows + fresh
    return rows


def plain_back(row):
    return "".join(char.swapcase() for char in reversed(row))


def reduced(row):
    """The least row, by taking out the pairs of one letter at a time."""
    pairs = [char + char.swapcase() for char in sorted(set(row))]
    while any(pair in row for pair in pairs):
        for pair in pairs:
            row = row.replace(pair, "")
    return row


def turned(row):
    return [row[at:] + row[:at] for at in range(len(row))]


def plain_kin(row):
    return set(turned(row)) | {plain_back(other) for other in turned(row)}


def random_row(chance, letters, size):
    """A free row of just this size."""
    row = ""
    while len(row) < size:
        row += chance.choice([sign for sign in letters + letters.upper() if row[-1:] != sign.swapcase()])
    return row


def random_rules(chance, letters, sizes, many):
    """Rules with so many told rows, of sizes out of these; short or not."""
    while True:
        rows = tuple(random_row(chance, letters, chance.choice(sizes)) for _ in range(many))
        try:
            return Rules(letters, rows)
        except errors.NoRows:
            pass


def random_product(chance, rules, many, longest):
    """A product of so many told rows within leads of at most so many characters, free or not."""
    signs = rules.letters() + rules.letters().upper()
    steps = []
    for _ in range(many):
        lead = "".join(chance.choice(signs) for _ in range(chance.randrange(longest + 1)))
        steps.append((lead, chance.randrange(len(rules.rows())), chance.choice((1, -1))))
    return steps


def product_row(rules, steps):
    """The row of a product, put together plainly."""
    row = ""
    for lead, index, sign in steps:
        told = rules.rows()[index]
        row += lead + (told if sign == 1 else plain_back(told)) + plain_back(lead)
    return reduced(row)


def led_kin(rules, longest):
    """All kin, and those within leads that have at most so many characters with them."""
    found = sorted(other for row in rules.rows() for other in plain_kin(row))
    signs = rules.letters() + rules.letters().upper()
    for row in found:
        led = [sign + row + sign.swapcase() for sign in signs]
        found += [other for other in led if len(other) <= longest and is_free(other)]
    return found


def nothing_up_to(rules, longest):
    """The free rows of at most so many characters that are nothing.

    Each gets shorter if more than half of a kin is taken out for the back of its rest, and
    comes back if a kin is put in, within a lead if that was taken out with its back.
    """
    blocks = led_kin(rules, longest)
    found = {""}
    fresh = [""]
    while fresh:
        row = fresh.pop()
        for at in range(len(row) + 1):
            for block in blocks:
                longer = reduced(row[:at] + block + row[at:])
                if len(longer) <= longest and longer not in found:
                    found.add(longer)
                    fresh.append(longer)
    return found


def moves(images, letters, row):
    """The points that a row leads 0, 1, .. to, by a permutation for each letter."""
    points = list(range(len(images[0])))
    for char in row:
        image = images[letters.index(char.lower())]
        points = [image[at] if char.islower() else image.index(at) for at in points]
    return points


def holding_maps(rules, points):
    """All lists of permutations, one for each letter, by which the told rows move no point."""
    still = list(range(points))
    lists = product(permutations(range(points)), repeat=len(rules.letters()))
    return [one for one in lists if all(moves(one, rules.letters(), row) == still for row in rules.rows())]


class Syllables:
    """Rows by rules whose told rows are powers of one letter: each letter comes round by itself."""

    def __init__(self, rules):
        self.rules = rules
        self.rounds = {row[0].lower(): len(row) for row in rules.rows()}

    def normal(self, row):
        """The letters with their numbers, as they follow each other; empty for nothing."""
        parts = []
        for char in row:
            letter, number = char.lower(), 1 if char.islower() else -1
            if parts and parts[-1][0] == letter:
                number += parts.pop()[1]
            if letter in self.rounds:
                number %= self.rounds[letter]
            if number:
                parts.append((letter, number))
        return tuple(parts)

    def order(self, row):
        parts = list(self.normal(row))
        while len(parts) > 1 and parts[0][0] == parts[-1][0]:
            letter, number = parts.pop()
            number += parts.pop(0)[1]
            number = number % self.rounds[letter] if letter in self.rounds else number
            if number:
                parts.insert(0, (letter, number))
        if not parts:
            return 1
        if len(parts) > 1 or parts[0][0] not in self.rounds:
            return None
        letter, number = parts[0]
        return next(times for times in range(1, 41) if times * number % self.rounds[letter] == 0)


DOC = Rules("ab", ("abABabABabABabAB",))
SURFACE = Rules("abcd", ("abABcdCD",))
POWERS = (
    Rules("a", ("a",)), Rules("a", ("aa",)), Rules("a", ("AAA",)), Rules("a", ("a" * 40,)),
    Rules("ab", ("aaaa", "bbb")), Rules("ab", ("a", "bb")), Rules("ab", ("BBBBB",)), Rules("ab", ("a" * 6, "B" * 10)),
    Rules("abc", ("aa", "ccc")), Rules("abc", ("a", "b", "c")), Rules("xyz", ("xxx", "yy", "zzzz")),
    Rules("abcd", ("aa", "bbb", "cccc", "D")), Rules("ab"), Rules("a"), Rules("abcd"),
)
SHORT = POWERS + (
    DOC, SURFACE, Rules("ab", ("ab" * 7,)), Rules("ab", ("aB",)), Rules("ab", ("ab" * 20,)),
    Rules("ab", ("a" * 7, "b" * 7, "abAB" * 2)), Rules("ab", ("abAB" * 2, "b" * 7)), Rules("abc", ("abc" * 3,)),
    Rules("abcd", ("ab", "cd")), Rules("abcd", ("DDACbAAbdAcDBBadcbCb", "a" * 13)),
    Rules("abcd", ("cAdaCabadAddB",)), Rules("ab", ("BabbbAAAbABAB",)), Rules("ab", ("BAbbbABAAAbAAB" * 2,)),
    Rules("abcd", ("abABcdCD" * 3, "d" * 7, "a" * 8)),
    Rules("abcd", (
        "bdaDDBcbAdCCBBAdcadBdABCdabbDDaccabDCCab", "caDcBadACbdABddBcDBcADDbCAAdBBcdaaBCaDBc",
        "aacbbDCBDAbbcAcDaBBdccABAAcBddbCdABBCDad",
    )),
)
NOT_SHORT = (
    Rules("ab", ("abAB",)), Rules("ab", ("abABab",)), Rules("ab", ("a", "ab")), Rules("ab", ("ab", "abab")),
    Rules("ab", ("aab",)), Rules("ab", ("a" * 6, "abAB" * 2)), Rules("abc", ("aa", "c" * 7, "abAB" * 2)),
    Rules("abcd", ("aDBdCbCbAAdB",)), Rules("abc", ("bb", "aac")),
)


def asserted_signatures(case, module, expected):
    """Check the names and arguments of a module's functions, all of them defined there."""
    for name, arguments in expected.items():
        with case.subTest(name=name):
            function = vars(module)[name]
            case.assertEqual(function.__module__, module.__name__)
            case.assertEqual(function.__name__, name)
            found = inspect.signature(function).parameters.values()
            case.assertEqual([one.name for one in found], arguments)
            case.assertTrue(all(one.default is one.empty for one in found))


class Raising:
    """Beside TestCase: asks for an error of just one own class, and for its field."""

    def assert_raises(self, name, call, *args, **more):
        with self.assertRaises(errors.RowError) as caught:
            call(*args, **more)
        own = caught.exception
        self.assertEqual(type(own).__name__, name)
        for other in OWN_NAMES:
            self.assertEqual(isinstance(own, getattr(errors, other)), other == name)
        return own

    def assert_no_rows(self, index, call, *args, **more):
        told = self.assert_raises("NoRows", call, *args, **more).index
        self.assertIs(type(told), int)
        self.assertEqual(told, index)
