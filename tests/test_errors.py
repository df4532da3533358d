import copy
import unittest

from sixthrows import errors
from tests.samples import ONE_STRING, OWN_NAMES, WITH_FIELD

ANY_VALUES = (0, 1, -3, 10 ** 59, True, None, "row", "", b"x", 1.5, (), [1, [2]], {"a": 1}, {1}, object())


class TestErrors(unittest.TestCase):
    def test_base(self):
        self.assertEqual(errors.RowError.__bases__, (ValueError,))
        self.assertEqual(errors.RowError.__module__, "sixthrows.errors")

    def test_each_is_a_direct_subclass(self):
        for name in OWN_NAMES:
            with self.subTest(name=name):
                own = getattr(errors, name)
                self.assertEqual(own.__bases__, (errors.RowError,))
                self.assertEqual(own.__name__, name)
                self.assertEqual(own.__module__, "sixthrows.errors")

    def test_there_are_no_others(self):
        found = [name for name, value in vars(errors).items() if isinstance(value, type)]
        self.assertEqual(sorted(found), sorted(OWN_NAMES + ("RowError",)))

    def test_none_is_of_another_ones_class(self):
        for name in OWN_NAMES:
            own = getattr(errors, name)("words")
            for other in OWN_NAMES:
                with self.subTest(name=name, other=other):
                    self.assertEqual(isinstance(own, getattr(errors, other)), name == other)

    def test_one_string(self):
        for name in ONE_STRING + ("RowError",):
            for words in ("some words", ""):
                with self.subTest(name=name):
                    own = getattr(errors, name)(words)
                    self.assertEqual(own.args, (words,))
                    self.assertEqual(str(own), words)

    def test_fields_are_stored_as_they_are(self):
        for name, field in WITH_FIELD:
            for value in ANY_VALUES:
                with self.subTest(name=name, value=value):
                    own = getattr(errors, name)
                    self.assertIs(getattr(own(value), field), value)
                    self.assertIs(getattr(own(**{field: value}), field), value)

    def test_fields_take_one_argument(self):
        for name, _ in WITH_FIELD:
            with self.subTest(name=name):
                self.assertRaises(TypeError, getattr(errors, name))
                self.assertRaises(TypeError, getattr(errors, name), 1, 2)

    def test_fields_are_on_their_own_class_alone(self):
        self.assertFalse(hasattr(errors.NoRows(1), "line"))
        self.assertFalse(hasattr(errors.NoText(1), "index"))

    def test_fields_with_values_that_cannot_be_shown(self):
        class Mute:
            def __repr__(self):
                raise RuntimeError("not shown")

        for name, field in WITH_FIELD:
            with self.subTest(name=name):
                value = Mute()
                own = getattr(errors, name)(value)
                self.assertIs(getattr(own, field), value)
                self.assertNotEqual(str(own), "")

    def test_a_copy_has_the_field(self):
        for name, field in WITH_FIELD:
            self.assertEqual(getattr(copy.copy(getattr(errors, name)(7)), field), 7)

    def test_raised_and_caught_by_the_base(self):
        for name in OWN_NAMES:
            for base in (errors.RowError, ValueError):
                with self.subTest(name=name, base=base):
                    with self.assertRaises(base):
                        raise getattr(errors, name)("words")


if __name__ == "__main__":
    unittest.main()
