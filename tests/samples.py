"""Values and ways of asking that several tests share."""

from itertools import product

from sixthrows import errors

ONE_STRING = (
    "NoRow", "NoLetters", "NoIndex", "NoTimes", "NotShort", "NoMatch", "NoLength", "TooMany",
    "NoMap", "NoPoints", "NoProduct", "NothingToUndo", "NoOrder",
)
WITH_FIELD = (("NoRows", "index"), ("NoText", "line"))
OWN_NAMES = ONE_STRING + tuple(name for name, _ in WITH_FIELD)

NOT_STRINGS = (
    None, True, False, 0, 1, -1, 10 ** 60, 1.5, 2j, b"", b"ab", bytearray(b"ab"), [], ["a"],
    (), ("a",), {}, {"a": 1}, set(), {"a"}, frozenset(), object(), str, len, range(3), ...,
)
NOT_ROW_STRINGS = (
    " ", "a b", " ab", "ab ", "a1", "2", "-", "a-", "a.b", "_", "a_b", "\n", "ab\n", "\nab",
    "a\tb", "ab\t", "@", "[", "`", "{", "a@", "a[", "a`", "a{", "a,b", "'", "\"", "\\", "~",
    "\u00e9", "a\u00df", "\u0430", "\uff41", "\u212a", "\u00aa",
)
NOT_ROWS = NOT_STRINGS + NOT_ROW_STRINGS

NOT_INTEGERS = (
    None, True, False, 0.0, 1.0, "0", "1", "", b"0", [], [0], (), (0,), {}, {0: 0}, set(), {0},
    object(), int, len, range(3),
)


def all_rows(letters, longest):
    """All rows of these letters and their backs with at most so many characters."""
    signs = letters + letters.upper()
    return ["".join(chars) for size in range(longest + 1) for chars in product(signs, repeat=size)]


def is_free(row):
    return all(one != two.swapcase() for one, two in zip(row, row[1:]))


def free_rows(letters, longest):
    return [row for row in all_rows(letters, longest) if is_free(row)]


class Raising:
    """Beside TestCase: asks for an error of just one own class, and for its field."""

    def assert_raises(self, name, call, *args, **more):
        with self.assertRaises(errors.RowError) as caught:
            call(*args, **more)
        own = caught.exception
        self.assertEqual(type(own).__name__, name)
        for other in OWN_NAMES:
            self.assertEqual(isinstance(own, getattr(errors, other)), other == name)
        return own

    def assert_no_rows(self, index, call, *args, **more):
        told = self.assert_raises("NoRows", call, *args, **more).index
        self.assertIs(type(told), int)
        self.assertEqual(told, index)
