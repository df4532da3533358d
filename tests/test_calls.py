"""What holds of all functions: names of arguments, calls again, lists that are new, no integers."""

import copy
import unittest

from sixthrows.beside import alike, following, makes, missing_row, shortest, unlike_counts
from sixthrows.desks import Desk
from sixthrows.errors import RowError
from sixthrows.free import back, core, joined, least, pass_freely, ring_alike, ring_lead, root
from sixthrows.live import Live
from sixthrows.loose import divisors, loose_order, sums
from sixthrows.maps import map_holds, maps, moved, parting_map
from sixthrows.nothing import coming_round, is_nothing, is_product, is_rest, order, product, rest, same
from sixthrows.overlaps import clashes, is_short, least_lots, least_power, overlap, pieces, power
from sixthrows.rules import Rules
from sixthrows.texts import product_text, read_product, read_row, read_rules, row_text, rules_text
from tests.samples import DOC

CLASHING = Rules("ab", ("aab", "abAB", "b"))
POWERS = Rules("ab", ("aaaa", "bbb"))
TURNED = Rules("ab", ("BBB", "AAAA"))
NOTHING = "BAbaBAbaBAbaBAba"
# Which one it is, is left open; that it is one, the tests of products ask.
PRODUCT = tuple(product(POWERS, "aaaa"))


def asked():
    """The calls, each as a function, its arguments by name, in their order, and its answer."""
    return [
        (overlap, {"rules": CLASHING, "one": 0, "two": 1}, 2),
        (pieces, {"rules": CLASHING}, ["AB", "BA", "ab", "ba"]),
        (is_short, {"rules": CLASHING}, False),
        (clashes, {"rules": CLASHING}, [(0, 0, 1), (0, 1, 2), (0, 2, 1), (1, 1, 1), (1, 2, 1)]),
        (least_lots, {"rules": CLASHING}, [(0, 1)]),
        (power, {"rules": DOC, "times": 2}, Rules("ab", ("abAB" * 8,))),
        (least_power, {"rules": CLASHING}, 7),
        (is_nothing, {"rules": DOC, "row": NOTHING}, True),
        (same, {"rules": DOC, "one": "abABabAB", "two": "baBAbaBA"}, True),
        (rest, {"rules": DOC, "row": NOTHING + "abB"}, "a"),
        (is_rest, {"rules": DOC, "row": "abABabABabABa"}, False),
        (product, {"rules": POWERS, "row": "aaaa"}, list(PRODUCT)),
        (is_product, {"rules": POWERS, "row": "abbbA", "thing": [("a", 1, 1)]}, True),
        (order, {"rules": DOC, "row": "abAB"}, 4),
        (coming_round, {"rules": POWERS}, [(0, "a", 4), (1, "b", 3)]),
        (following, {"rules": POWERS, "rows": ["a", "aaaa", "", "ab", "abbbA"]}, [1, 2, 4]),
        (makes, {"rules": POWERS, "other": TURNED}, True),
        (missing_row, {"rules": POWERS, "other": CLASHING}, "aab"),
        (alike, {"rules": POWERS, "other": TURNED}, True),
        (unlike_counts, {"rules": POWERS, "length": 2}, [1, 5, 14]),
        (shortest, {"rules": POWERS, "row": "aab", "length": 3}, "AAb"),
        (sums, {"rules": DOC, "row": "abbA"}, (0, 2)),
        (divisors, {"rules": Rules("abc", ("aaaa", "bb"))}, (1, [2, 4])),
        (loose_order, {"rules": POWERS, "row": "ab"}, 12),
        (moved, {"letters": "ab", "images": [(1, 0, 2), (1, 2, 0)], "row": "aB"}, (0, 2, 1)),
        (map_holds, {"rules": POWERS, "images": [(1, 0, 2), (1, 2, 0)]}, True),
        (maps, {"rules": Rules("a", ("aa",)), "points": 2}, [[(0, 1)], [(1, 0)]]),
        (parting_map, {"rules": Rules("a", ("aa",)), "row": "aaa", "points": 2}, [(1, 0)]),
        (rules_text, {"rules": POWERS}, "letters ab\na4 is nothing\nb3 is nothing"),
        (read_rules, {"text": "letters ab\na3a is nothing\nbbb is nothing"}, POWERS),
        (row_text, {"row": "aabA"}, "a2bA"),
        (read_row, {"text": "a2bA"}, "aabA"),
        (product_text, {"thing": [("aa", 0, 1), ("", 12, -1)]}, "a2 0 +\n- 12 -"),
        (read_product, {"text": "a2 0 +\n- 12 -"}, [("aa", 0, 1), ("", 12, -1)]),
        (least, {"row": "abBa"}, "aa"),
        (back, {"row": "abA"}, "aBA"),
        (joined, {"rows": ["ab", "", "Ba"]}, "aa"),
        (core, {"row": "abA"}, ("a", "b")),
        (root, {"row": "abbA"}, ("abA", 2)),
        (ring_alike, {"one": "ab", "two": "ba"}, True),
        (ring_lead, {"one": "ab", "two": "aab"}, None),
        (pass_freely, {"one": "aa", "two": "A"}, True),
    ]


def spoil(value):
    """Change all lists of an answer."""
    if isinstance(value, (list, tuple)):
        for item in value:
            spoil(item)
    if isinstance(value, list):
        value.append("more")
        value[0] = None


def kept(arguments):
    """A copy of arguments, rules as what they were made of."""
    made = {name: value for name, value in arguments.items() if isinstance(value, Rules)}
    others = {name: value for name, value in arguments.items() if name not in made}
    return {name: (rules.letters(), rules.rows()) for name, rules in made.items()}, copy.deepcopy(others)


# All functions of the interface, and what each asks for an integer by.
INTEGERS = {
    overlap: ("one", "two"), power: ("times",), unlike_counts: ("length",), shortest: ("length",), maps: ("points",),
    parting_map: ("points",),
}


class TestCalls(unittest.TestCase):
    def check(self, call, arguments, expected):
        found = call(**arguments)
        with self.subTest(function=call.__name__):
            self.assertEqual(found, expected)
            self.assertIs(type(found), type(expected))
        return found

    def test_by_name_and_position(self):
        for call, arguments, expected in asked():
            self.check(call, arguments, expected)
            self.check(call, dict(reversed(arguments.items())), expected)
            with self.subTest(function=call.__name__):
                self.assertEqual(call(*arguments.values()), expected)

    def test_true_and_false_are_no_integers(self):
        for call, arguments, _ in asked():
            for name in INTEGERS.get(call, ()):
                for value in (True, False, 1.0, "1"):
                    with self.subTest(function=call.__name__, name=name, value=value):
                        self.assertRaises(RowError, call, **{**arguments, name: value})

    def test_tuples_for_lists_and_lists_for_tuples(self):
        self.assertRaises(RowError, following, POWERS, ("a",))
        self.assertRaises(RowError, joined, ("a",))
        self.assertRaises(RowError, Rules, "ab", ["ab"])
        self.assertIs(is_product(POWERS, "aaaa", PRODUCT), False)
        self.assertRaises(RowError, product_text, PRODUCT)
        self.assertRaises(RowError, product_text, [list(step) for step in PRODUCT])
        self.assertRaises(RowError, moved, "a", ((1, 0),), "a")
        self.assertRaises(RowError, moved, "a", [[1, 0]], "a")
        self.assertRaises(RowError, map_holds, POWERS, ((1, 0), (0, 1)))

    def test_a_call_that_raises_changes_nothing(self):
        live, desk = Live(POWERS), Desk()
        live.lay("ab")
        for call, arguments, expected in asked():
            for name in arguments:
                if not isinstance(arguments[name], Rules):
                    before = kept(arguments)
                    # No argument that names an error takes such a value; is_product takes any.
                    if call is not is_product or name != "thing":
                        self.assertRaises(RowError, call, **{**arguments, name: {"no": [1]}})
                    self.assertEqual(kept(arguments), before)
            self.check(call, arguments, expected)
        self.assertEqual((live.least, live.rules, len(live), desk.order("rules")), ("ab", POWERS, 1, "letters ab"))

    def test_again_with_others_between(self):
        calls = asked()
        for turn in range(3):
            for call, arguments, expected in calls[turn:] + calls[:turn]:
                self.check(call, arguments, expected)
        for call, arguments, expected in reversed(calls):
            self.check(call, arguments, expected)

    def test_what_was_passed_is_unchanged(self):
        for call, arguments, expected in asked():
            before = kept(arguments)
            self.check(call, arguments, expected)
            with self.subTest(function=call.__name__):
                self.assertEqual(kept(arguments), before)

    def test_lists_that_are_changed_afterwards(self):
        for call, arguments, expected in asked():
            spoil(self.check(call, arguments, expected))
            again = self.check(call, arguments, expected)
            self.assertTrue(again is not call(**arguments) or not isinstance(again, list))
        for call, arguments, expected in asked():
            self.check(call, arguments, expected)

    def test_lists_without_items_are_new_too(self):
        rules = Rules("ab")
        for call, more in (
            (pieces, ()), (clashes, ()), (coming_round, ()), (product, ("",)), (following, ([],)),
        ):
            call(rules, *more).append("more")
            self.assertEqual(call(rules, *more), [])
        divisors(rules)[1].append(2)
        self.assertEqual(divisors(rules), (2, []))
        least_lots(rules).append((0,))
        self.assertEqual(least_lots(rules), [()])

    def test_passed_lists_are_not_kept(self):
        rows = ["a", ""]
        found = following(POWERS, rows)
        rows.append("aaaa")
        self.assertEqual(found, [1])
        thing = product(POWERS, "aaaa")
        self.assertIs(is_product(POWERS, "aaaa", thing), True)
        thing.append(("", 1, 1))
        self.assertIs(is_product(POWERS, "aaaa", thing), False)
        images = [(1, 0), (0, 1)]
        self.assertEqual(moved("ab", images, "a"), (1, 0))
        images[0] = (0, 1)
        self.assertEqual(moved("ab", images, "a"), (0, 1))
        rules = Rules("ab")
        self.assertIsNot(Live(rules).rules, rules)


if __name__ == "__main__":
    unittest.main()
