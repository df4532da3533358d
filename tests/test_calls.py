"""What holds of all functions over rules: names of arguments, calls again, lists that are new."""

import copy
import unittest

from sixthrows.beside import alike, following, makes, missing_row, shortest, unlike_counts
from sixthrows.loose import divisors, loose_order, sums
from sixthrows.nothing import coming_round, is_nothing, is_product, is_rest, order, product, rest, same
from sixthrows.overlaps import clashes, is_short, least_lots, least_power, overlap, pieces, power
from sixthrows.rules import Rules
from tests.samples import DOC

CLASHING = Rules("ab", ("aab", "abAB", "b"))
POWERS = Rules("ab", ("aaaa", "bbb"))
TURNED = Rules("ab", ("BBB", "AAAA"))
NOTHING = "BAbaBAbaBAbaBAba"
# Which one it is, is left open; that it is one, the tests of products ask.
PRODUCT = tuple(product(POWERS, "aaaa"))


def asked():
    """The calls, each as a function, its arguments by name, in their order, and its answer."""
    return [
        (overlap, {"rules": CLASHING, "one": 0, "two": 1}, 2),
        (pieces, {"rules": CLASHING}, ["AB", "BA", "ab", "ba"]),
        (is_short, {"rules": CLASHING}, False),
        (clashes, {"rules": CLASHING}, [(0, 0, 1), (0, 1, 2), (0, 2, 1), (1, 1, 1), (1, 2, 1)]),
        (least_lots, {"rules": CLASHING}, [(0, 1)]),
        (power, {"rules": DOC, "times": 2}, Rules("ab", ("abAB" * 8,))),
        (least_power, {"rules": CLASHING}, 7),
        (is_nothing, {"rules": DOC, "row": NOTHING}, True),
        (same, {"rules": DOC, "one": "abABabAB", "two": "baBAbaBA"}, True),
        (rest, {"rules": DOC, "row": NOTHING + "abB"}, "a"),
        (is_rest, {"rules": DOC, "row": "abABabABabABa"}, False),
        (product, {"rules": POWERS, "row": "aaaa"}, list(PRODUCT)),
        (is_product, {"rules": POWERS, "row": "abbbA", "thing": [("a", 1, 1)]}, True),
        (order, {"rules": DOC, "row": "abAB"}, 4),
        (coming_round, {"rules": POWERS}, [(0, "a", 4), (1, "b", 3)]),
        (following, {"rules": POWERS, "rows": ["a", "aaaa", "", "ab", "abbbA"]}, [1, 2, 4]),
        (makes, {"rules": POWERS, "other": TURNED}, True),
        (missing_row, {"rules": POWERS, "other": CLASHING}, "aab"),
        (alike, {"rules": POWERS, "other": TURNED}, True),
        (unlike_counts, {"rules": POWERS, "length": 2}, [1, 5, 14]),
        (shortest, {"rules": POWERS, "row": "aab", "length": 3}, "AAb"),
        (sums, {"rules": DOC, "row": "abbA"}, (0, 2)),
        (divisors, {"rules": Rules("abc", ("aaaa", "bb"))}, (1, [2, 4])),
        (loose_order, {"rules": POWERS, "row": "ab"}, 12),
    ]


def spoil(value):
    """Change all lists of an answer."""
    if isinstance(value, (list, tuple)):
        for item in value:
            spoil(item)
    if isinstance(value, list):
        value.append("more")
        value[0] = None


def kept(arguments):
    """A copy of arguments, rules as what they were made of."""
    made = {name: value for name, value in arguments.items() if isinstance(value, Rules)}
    others = {name: value for name, value in arguments.items() if name not in made}
    return {name: (rules.letters(), rules.rows()) for name, rules in made.items()}, copy.deepcopy(others)


class TestCalls(unittest.TestCase):
    def check(self, call, arguments, expected):
        found = call(**arguments)
        with self.subTest(function=call.__name__):
            self.assertEqual(found, expected)
            self.assertIs(type(found), type(expected))
        return found

    def test_by_name_and_position(self):
        for call, arguments, expected in asked():
            self.check(call, arguments, expected)
            self.check(call, dict(reversed(arguments.items())), expected)
            with self.subTest(function=call.__name__):
                self.assertEqual(call(*arguments.values()), expected)

    def test_again_with_others_between(self):
        calls = asked()
        for turn in range(3):
            for call, arguments, expected in calls[turn:] + calls[:turn]:
                self.check(call, arguments, expected)
        for call, arguments, expected in reversed(calls):
            self.check(call, arguments, expected)

    def test_what_was_passed_is_unchanged(self):
        for call, arguments, expected in asked():
            before = kept(arguments)
            self.check(call, arguments, expected)
            with self.subTest(function=call.__name__):
                self.assertEqual(kept(arguments), before)

    def test_lists_that_are_changed_afterwards(self):
        for call, arguments, expected in asked():
            spoil(self.check(call, arguments, expected))
            again = self.check(call, arguments, expected)
            self.assertTrue(again is not call(**arguments) or not isinstance(again, list))
        for call, arguments, expected in asked():
            self.check(call, arguments, expected)

    def test_lists_without_items_are_new_too(self):
        rules = Rules("ab")
        for call, more in (
            (pieces, ()), (clashes, ()), (coming_round, ()), (product, ("",)), (following, ([],)),
        ):
            call(rules, *more).append("more")
            self.assertEqual(call(rules, *more), [])
        divisors(rules)[1].append(2)
        self.assertEqual(divisors(rules), (2, []))
        least_lots(rules).append((0,))
        self.assertEqual(least_lots(rules), [()])

    def test_passed_lists_are_not_kept(self):
        rows = ["a", ""]
        found = following(POWERS, rows)
        rows.append("aaaa")
        self.assertEqual(found, [1])
        thing = product(POWERS, "aaaa")
        self.assertIs(is_product(POWERS, "aaaa", thing), True)
        thing.append(("", 1, 1))
        self.assertIs(is_product(POWERS, "aaaa", thing), False)


if __name__ == "__main__":
    unittest.main()
