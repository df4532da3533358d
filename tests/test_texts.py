import random
import re
import unittest
from itertools import groupby, product as strings

from sixthrows import texts as module
from sixthrows.errors import NoRows, NoText
from sixthrows.nothing import is_product, product
from sixthrows.rules import Rules
from sixthrows.texts import product_text, read_product, read_row, read_rules, row_text, rules_text
from tests.samples import (
    DOC, NOT_ROWS, NOT_SHORT, NOT_STRINGS, SHORT, SURFACE, Raising, all_rows, asserted_signatures, product_row,
    random_product, random_row, random_rules,
)

UP_TO_40 = r"(?:[2-9]|[1-3][0-9]|40)"
UP_TO_300 = r"(?:[2-9]|[1-9][0-9]|[12][0-9][0-9]|300)"
SIX = ("a", "b", "c", "ab", "aB", "ac")
# None of these writes a row.
NOT_ROW_TEXTS = (
    "", " ", "--", "-a", "a-", "-2", "2", "2a", "22", "02a", "a0", "a1", "a01", "a02", "a00", "a002", "a 2", "a2 ",
    " a2", "a2\n",
    "\n", "a\n", "\na", "a\tb", "a+", "a-2", "a.2", "a2.", "a2,b", "a301", "a302", "a999", "a1000", "a0300", "a300a",
    "aa300", "a150b151", "b" + "a" * 300, "a" * 301, "ab" * 151, "a" + "9" * 60, "a_2", "a^2", "(ab)2", "a\u00b2",
    "a\u0662", "\u00e9", "a\uff12", "\u0430", "\u212a",
    "\u00aa", "a2b0", "a2b1", "a20b03", "ab" * 149 + "a3", "1", "0", "-1", "+", "a b", "`", "{", "[", "@",
)


def plain_read(text, number, most):
    """The row that a text writes, taken apart by a pattern; None if it writes none."""
    if text == "-" and most == 300:
        return ""
    token = f"([a-zA-Z])({number}?)(?![0-9])"
    if not re.fullmatch(f"(?:{token})+", text):
        return None
    row = "".join(char * int(times or "1") for char, times in re.findall(token, text))
    return row if len(row) <= most else None


def plain_write(row):
    runs = [(char, len(list(run))) for char, run in groupby(row)]
    return "".join(char + (str(many) if many > 1 else "") for char, many in runs) or "-"


def loosely(chance, row, most):
    """A text of a row: its runs are cut in pieces, each with a number or without."""
    text = ""
    while row:
        run = len(row) - len(row.lstrip(row[0]))
        many = chance.randint(1, min(run, most))
        if chance.random() < 0.5:
            text += row[0] * many
        else:
            text += row[0] + (str(many) if many > 1 else "")
        row = row[many:]
    return text or "-"


class Texts(Raising):
    def assert_no_text(self, line, call, *args, **more):
        told = self.assert_raises("NoText", call, *args, **more).line
        self.assertIs(type(told), int)
        self.assertEqual(told, line)


class TestInterface(unittest.TestCase):
    def test_names_and_arguments(self):
        asserted_signatures(self, module, {
            "rules_text": ["rules"], "read_rules": ["text"], "row_text": ["row"], "read_row": ["text"],
            "product_text": ["thing"], "read_product": ["text"],
        })


class TestRulesText(unittest.TestCase):
    def test_examples(self):
        for rules, expected in (
            (Rules("a"), "letters a"), (Rules("abcd"), "letters abcd"), (Rules("xyz"), "letters xyz"),
            (DOC, "letters ab\nabABabABabABabAB is nothing"),
            (Rules("ab", ("aab", "abAB")), "letters ab\na2b is nothing\nabAB is nothing"),
            (Rules("ab", ("a" * 40,)), "letters ab\na40 is nothing"),
            (Rules("ab", ("aa", "B", "aBBBa")), "letters ab\na2 is nothing\nB is nothing\naB3a is nothing"),
            (Rules("ab", ("A" * 10 + "b" * 30,)), "letters ab\nA10b30 is nothing"),
            (Rules("ab", ("abba",)), "letters ab\nab2a is nothing"),
            (Rules("abc", SIX), "letters abc\n" + "\n".join(row + " is nothing" for row in SIX)),
        ):
            with self.subTest(rows=rules.rows()):
                self.assertEqual(rules_text(rules), expected)
                self.assertIs(type(rules_text(rules)), str)
                self.assertEqual(read_rules(expected), rules)

    def test_all_rules(self):
        chance = random.Random(200)
        more = tuple(random_rules(chance, letters, range(1, 41), many) for letters in ("ab", "abc", "xyz", "abcd")
                     for many in range(7))
        for rules in SHORT + NOT_SHORT + more:
            lines = [f"letters {rules.letters()}"] + [plain_write(row) + " is nothing" for row in rules.rows()]
            self.assertEqual(rules_text(rules), "\n".join(lines))
            found = read_rules(rules_text(rules))
            self.assertIs(type(found), Rules)
            self.assertEqual(found, rules)
            self.assertEqual((found.letters(), found.rows()), (rules.letters(), rules.rows()))


class TestReadRules(Texts, unittest.TestCase):
    def test_ways_of_writing(self):
        for line, row in (
            ("a", "a"), ("aa", "aa"), ("a2", "aa"), ("a2a2", "a" * 4), ("a2a", "aaa"), ("aa2", "aaa"),
            ("a3", "aaa"),
            ("a39a", "a" * 40), ("a20a20", "a" * 40), ("a40", "a" * 40), ("a9", "a" * 9), ("a10", "a" * 10),
            ("a38b2", "a" * 38 + "bb"), ("A3b2A2", "AAAbbAA"), ("B2B2B2", "B" * 6), ("ab2ab2", "abbabb"),
            ("a" * 40, "a" * 40),
        ):
            with self.subTest(line=line):
                found = read_rules(f"letters ab\n{line} is nothing")
                self.assertEqual(found, Rules("ab", (row,)))

    def test_written_loosely(self):
        chance = random.Random(201)
        for letters in ("a", "ab", "abcd"):
            for many in range(4):
                rules = random_rules(chance, letters, range(1 if len(letters) == 1 else 4, 41), many)
                lines = [f"letters {letters}"] + [loosely(chance, row, 40) + " is nothing" for row in rules.rows()]
                self.assertEqual(read_rules("\n".join(lines)), rules)

    def test_small_lines_sign_by_sign(self):
        seen = {True: 0, False: 0}
        for size in range(5):
            for signs in strings("aAb0124", repeat=size):
                line = "".join(signs)
                row = plain_read(line, UP_TO_40, 40)
                text = f"letters ab\n{line} is nothing"
                try:
                    expected = Rules("ab", (row,))
                except NoRows:
                    expected = None
                seen[expected is None] += 1
                try:
                    self.assertEqual(read_rules(text), expected, line)
                except NoText as error:
                    self.assertEqual((error.line, expected), (1, None), line)
        self.assertGreater(min(seen.values()), 200)

    def test_letters_line(self):
        for letters in ("a", "z", "ab", "abcd", "wxyz"):
            self.assertEqual(read_rules(f"letters {letters}"), Rules(letters))
        for first in (
            "", " ", "letters", "letters ", "letters  ab", " letters ab", "letters ab ", "letters a b", "letters\tab",
            "letters ba", "letters aa", "letters abcde", "letters A", "letters aB", "letters -", "letters a2",
            "letters 2",
            "Letters ab", "LETTERS ab", "letter ab", "lettersab", "letters ab is nothing", "ab", "a is nothing",
            "letters ab\r", "letters ab,", "letters \u00e9", "letters \u0430", "letters letters", "letters ab.",
        ):
            with self.subTest(first=first):
                self.assert_no_text(0, read_rules, first)
                self.assert_no_text(0, read_rules, text=first)
                self.assert_no_text(0, read_rules, first + "\na is nothing")
                self.assert_no_text(0, read_rules, first + "\nwrong")

    def test_lines_that_cannot_stand(self):
        good = ["letters ab", "a7 is nothing", "abABabAB is nothing"]
        for line in (
            "", " ", "b", "is nothing", " is nothing", "  is nothing", "b  is nothing", "b is  nothing",
            " b is nothing",
            "b is nothing ", "b is nothing.", "b is Nothing", "b is", "b nothing", "b is something", "bis nothing",
            "b isnothing", "b\tis nothing", "b is nothing\r", "- is nothing", "b- is nothing", "2 is nothing",
            "2b is nothing", "b0 is nothing", "b1 is nothing", "b02 is nothing", "b002 is nothing", "b41 is nothing",
            "b40b is nothing", "b20b21 is nothing", "b100 is nothing", "b300 is nothing", "b 2 is nothing",
            "ab is nothing is nothing", "a b is nothing", "aA is nothing", "abA is nothing", "a2bA is nothing",
            "c is nothing", "abC is nothing", "A2b2a2 is nothing", "letters ab", "b" * 41 + " is nothing",
            "b" + "4" * 60 + " is nothing", "b+ is nothing", "\u00e9 is nothing", "b\u00b2 is nothing",
            "b\u0662 is nothing",
        ):
            for at in (1, 2, 3):
                lines = good[:at] + [line] + good[at:]
                with self.subTest(line=line, at=at):
                    self.assert_no_text(at, read_rules, "\n".join(lines))
                    self.assert_no_text(at, read_rules, "\n".join(lines + ["", "wrong"]))
        self.assertEqual(read_rules("\n".join(good + ["b is nothing"])), Rules("ab", ("a" * 7, "abABabAB", "b")))

    def test_rows_that_cannot_stand_behind_the_others(self):
        for earlier, line in (
            ("ab", "ab"), ("ab", "ba"), ("ab", "AB"), ("ab", "BA"), ("a7", "aaaaaaa"), ("a7", "A7"), ("a7", "a3a4"),
            ("a2b", "aba"), ("a2b", "ba2"), ("a2b", "BA2"),
        ):
            with self.subTest(earlier=earlier, line=line):
                text = f"letters ab\n{earlier} is nothing\n{line} is nothing"
                self.assert_no_text(2, read_rules, text)
                self.assert_no_text(2, read_rules, text + "\nab3 is nothing")
                self.assertEqual(len(read_rules(f"letters ab\n{line} is nothing\na2b2 is nothing").rows()), 2)

    def test_six_lines_and_seven(self):
        lines = ["letters abc"] + [f"{row} is nothing" for row in SIX]
        self.assertEqual(read_rules("\n".join(lines)), Rules("abc", SIX))
        for more in ("bc is nothing", "a is nothing", "", "wrong"):
            self.assert_no_text(7, read_rules, "\n".join(lines + [more]))
            self.assert_no_text(7, read_rules, "\n".join(lines + [more, more]))
        self.assert_no_text(3, read_rules, "\n".join(lines[:3] + ["wrong"] + lines[3:] + ["bc is nothing"]))

    def test_newlines_at_the_end(self):
        for rules in SHORT:
            text = rules_text(rules)
            self.assert_no_text(1 + len(rules.rows()), read_rules, text + "\n")
            self.assert_no_text(1 + len(rules.rows()), read_rules, text + "\n\n")
            self.assert_no_text(0, read_rules, "\n" + text)
        self.assert_no_text(0, read_rules, "")
        self.assert_no_text(0, read_rules, "\n")

    def test_other_values(self):
        for value in NOT_STRINGS:
            with self.subTest(value=value):
                self.assert_no_text(0, read_rules, value)
                self.assert_no_text(0, read_rules, text=value)

    def test_six_thousand_characters(self):
        self.assert_no_text(1, read_rules, "letters ab\n" + "ab" * 2989 + " is nothing")
        self.assert_no_text(1, read_rules, ("letters ab\n" + "a40" * 3000)[:6000])
        self.assert_no_text(2, read_rules, ("letters ab\n" + "ab is nothing\n" * 600)[:6000])
        self.assert_no_text(0, read_rules, "a" * 6000)
        self.assert_no_text(0, read_rules, "\n" * 6000)


class TestRows(Texts, unittest.TestCase):
    def test_examples(self):
        for row, text in (
            ("", "-"), ("a", "a"), ("A", "A"), ("aa", "a2"), ("aA", "aA"), ("aab", "a2b"), ("abb", "ab2"),
            ("aaaBBc", "a3B2c"), ("aba", "aba"), ("z" * 9, "z9"), ("z" * 10, "z10"), ("a" * 300, "a300"), ("aaAA",
            "a2A2"),
            ("a" * 299 + "Z", "a299Z"), ("a" * 40 + "b" * 260, "a40b260"), ("Z" * 100, "Z100"),
            ("ab" * 150, "ab" * 150),
        ):
            with self.subTest(row=row):
                self.assertEqual(row_text(row), text)
                self.assertEqual(row_text(row=row), text)
                self.assertEqual(read_row(text), row)
                self.assertEqual(read_row(text=text), row)

    def test_all_small_rows(self):
        for row in all_rows("ab", 5):
            self.assertEqual(row_text(row), plain_write(row))
            self.assertEqual(read_row(row_text(row)), row)
            self.assertEqual(read_row(row or "-"), row)

    def test_all_numbers(self):
        for number in range(2, 301):
            self.assertEqual(row_text("q" * number), f"q{number}")
            self.assertEqual(read_row(f"q{number}"), "q" * number)
        for number in list(range(301, 400)) + [0, 1, 1000, 3000, 10 ** 59]:
            self.assert_no_text(0, read_row, f"q{number}")
        for number in range(300):
            self.assert_no_text(0, read_row, f"q0{number}")
            self.assert_no_text(0, read_row, f"q00{number}")

    def test_rows_of_three_hundred_characters(self):
        chance = random.Random(210)
        for letters in ("a", "ab", "xyz", "abcdefghijklmnopqrstuvwxyz"):
            row = random_row(chance, letters, 300)
            for whole in (row, "".join(sorted(row)), row[:299], row[:100] * 3):
                self.assertEqual(row_text(whole), plain_write(whole))
                self.assertEqual(read_row(row_text(whole)), whole)
                self.assertEqual(read_row(whole), whole)
                for _ in range(5):
                    self.assertEqual(read_row(loosely(chance, whole, 300)), whole)
            for longer in (row + row[-1], row[0] + row, "".join(sorted(row)) + "z"):
                self.assertEqual(row_text(longer), plain_write(longer))
                self.assert_no_text(0, read_row, row_text(longer))
                self.assert_no_text(0, read_row, longer)

    def test_longer_rows_are_written(self):
        self.assertEqual(row_text("a" * 301), "a301")
        self.assertEqual(row_text("a" * 12345 + "b"), "a12345b")
        self.assertEqual(row_text("ab" * 5000), "ab" * 5000)

    def test_the_same_character_again(self):
        for text, row in (
            ("a2a", "aaa"), ("aa2", "aaa"), ("a2a2", "aaaa"), ("a2aa3", "a" * 6), ("a150a150", "a" * 300), ("aaa",
            "aaa"),
            ("a299a", "a" * 300), ("a2A2a2", "aaAAaa"),
        ):
            with self.subTest(text=text):
                self.assertEqual(read_row(text), row)
        self.assert_no_text(0, read_row, "a150a151")

    def test_small_texts_sign_by_sign(self):
        seen = {True: 0, False: 0}
        for size in range(5):
            for signs in strings("aB-0123 ", repeat=size):
                text = "".join(signs)
                expected = plain_read(text, UP_TO_300, 300)
                seen[expected is None] += 1
                try:
                    self.assertEqual(read_row(text), expected, text)
                except NoText as error:
                    self.assertEqual((error.line, expected), (0, None), text)
        self.assertGreater(min(seen.values()), 300)

    def test_wrong_texts(self):
        for text in NOT_ROW_TEXTS + NOT_STRINGS:
            with self.subTest(text=text):
                self.assert_no_text(0, read_row, text)
                self.assert_no_text(0, read_row, text=text)

    def test_long_wrong_texts(self):
        for text in ("a300" * 1500, "ab" * 3000, "z9" * 3000, "9" * 60, ("a" + "2" * 60) * 98, "-" * 6000):
            self.assert_no_text(0, read_row, text)

    def test_no_row(self):
        for value in NOT_ROWS:
            with self.subTest(value=value):
                self.assert_raises("NoRow", row_text, value)
                self.assert_raises("NoRow", row_text, row=value)


class TestProducts(Texts, unittest.TestCase):
    def test_examples(self):
        for thing, text in (
            ([], ""), ([("", 0, 1)], "- 0 +"), ([("", 0, -1)], "- 0 -"), ([("a", 3, 1)], "a 3 +"),
            ([("aab", 0, 1), ("", 5, -1)], "a2b 0 +\n- 5 -"), ([("aA", 10, -1)], "aA 10 -"),
            ([("Z" * 300, 10 ** 59, 1)], "Z300 1" + "0" * 59 + " +"),
            ([("ab", 0, 1)] * 3, "ab 0 +\nab 0 +\nab 0 +"),
        ):
            with self.subTest(thing=thing):
                self.assertEqual(product_text(thing), text)
                self.assertEqual(product_text(thing=thing), text)
                found = read_product(text)
                self.assertEqual(found, thing)
                self.assertEqual(read_product(text=text), thing)
                self.assertIs(type(found), list)
                for step in found:
                    self.assertEqual([type(part) for part in step], [str, int, int])
                    self.assertIs(type(step), tuple)

    def test_products_of_rows(self):
        chance = random.Random(211)
        for rules in SHORT:
            if rules.rows():
                row = product_row(rules, random_product(chance, rules, 4, 20))
                thing = product(rules, row)
                found = read_product(product_text(thing))
                self.assertEqual(found, thing)
                self.assertIs(is_product(rules, row, found), True)
                lines = [f"{plain_write(lead)} {index} {'+' if sign == 1 else '-'}" for lead, index, sign in thing]
                self.assertEqual(product_text(thing), "\n".join(lines))

    def test_three_hundred_items(self):
        chance = random.Random(212)
        thing = random_product(chance, SURFACE, 300, 6)
        text = product_text(thing)
        self.assertEqual(len(text.split("\n")), 300)
        self.assertEqual(read_product(text), thing)
        self.assertEqual(product_text(read_product(text)), text)

    def test_long_leads(self):
        for lead in ("a" * 301, "ab" * 170, "ab" * 150 + "a", "B" * 340):
            self.assertEqual(product_text([(lead, 0, 1)]), f"{plain_write(lead)} 0 +")
            text = product_text([("a", 0, 1), (lead, 0, 1), ("", 0, -1)])
            self.assert_no_text(1, read_product, text)
        for lead in ("a" * 300, "ab" * 150):
            self.assertEqual(read_product(product_text([(lead, 0, 1)])), [(lead, 0, 1)])

    def test_leads_as_rows_are_read(self):
        for text, lead in (
            ("a2a", "aaa"), ("aa", "aa"), ("aA", "aA"), ("qQ2", "qQQ"), ("-", ""), ("a299b", "a" * 299 + "b"),
        ):
            self.assertEqual(read_product(f"{text} 7 -"), [(lead, 7, -1)])
        for text in NOT_ROW_TEXTS:
            if "\n" not in text:
                with self.subTest(text=text):
                    self.assert_no_text(0, read_product, f"{text} 0 +")
                    self.assert_no_text(2, read_product, f"- 0 +\na 0 -\n{text} 0 +\nwrong")

    def test_lines_that_cannot_stand(self):
        for line in (
            "", " ", "a", "a 0", "a +", "0 +", " 0 +", "a  +", "a 0 ", "a 0 + ", " a 0 +", "a  0 +", "a 0  +", "a\t0 +",
            "a 0\t+",
            "a 0 + +", "a 0 +-", "a 0 1", "a 0 -1", "a 0 ++", "a 0 +1", "a 00 +", "a 01 +", "a 007 -", "a -1 +",
            "a +1 +",
            "a 1.0 +", "a x +", "a - +", "a 1a +", "- - -", "+ 0 +", "a 0 a", "a,0,+", "a 0 \u2212", "a \u0661 +",
            "a \u00b2 +",
            "a 0 +\r", "a 1_0 +", "a 1 0 +", "- 0 0 +", "a 0+", "a0 +",
        ):
            with self.subTest(line=line):
                for at in range(4):
                    lines = ["ab 0 +", "- 1 -", "a3 12 +"]
                    lines.insert(at, line)
                    self.assert_no_text(at, read_product, "\n".join(lines))
                    self.assert_no_text(at, read_product, "\n".join(lines + ["wrong"]))
                if line != "":
                    self.assert_no_text(0, read_product, line)

    def test_empty_lines(self):
        self.assertEqual(read_product(""), [])
        self.assert_no_text(0, read_product, "\n")
        self.assert_no_text(1, read_product, "a 0 +\n")
        self.assert_no_text(0, read_product, "\na 0 +")
        self.assert_no_text(1, read_product, "a 0 +\n\na 0 +")

    def test_indexes(self):
        for index in list(range(120)) + [10 ** 20, 10 ** 59, 10 ** 60 - 1]:
            self.assertEqual(product_text([("a", index, 1)]), f"a {index} +")
            self.assertEqual(read_product(f"a {index} +"), [("a", index, 1)])

    def test_other_values_to_read(self):
        for value in NOT_STRINGS:
            with self.subTest(value=value):
                self.assert_no_text(0, read_product, value)
                self.assert_no_text(0, read_product, text=value)

    def test_no_product(self):
        good = ("a", 1, 1)
        for thing in (
            None, True, False, 0, "", "a 1 +", b"", (), {}, set(), object(),
            (good,), good, {good}, {good: 1}, iter([good]),
            [list(good)], [good, None], [good, ()], [good, []], [()], [("a", 1)], [("a", 1, 1, 1)], ["a11"], ["a 1 +"],
            [[good]],
            [(good,)], [None], [1], [True], [good, list(good)], [()] * 300,
        ):
            with self.subTest(thing=thing):
                self.assert_raises("NoProduct", product_text, thing)
                self.assert_raises("NoProduct", product_text, thing=thing)

    def test_wrong_parts_of_tuples(self):
        for lead in NOT_ROWS:
            self.assert_raises("NoProduct", product_text, [(lead, 1, 1)])
            self.assert_raises("NoProduct", product_text, [("a", 0, 1), (lead, 1, 1)])
        for index in (None, True, False, "1", 1.0, -1, -10 ** 59, (1,), [1], -2, b"1", "", {}):
            self.assert_raises("NoProduct", product_text, [("a", index, 1)])
        for sign in (None, True, False, 0, 2, -2, "1", "+", "-", 1.0, -1.0, [1], (1,), 10 ** 59, {}):
            self.assert_raises("NoProduct", product_text, [("a", 1, sign)])

    def test_what_was_passed(self):
        thing = [("aab", 0, 1), ("", 1, -1)]
        text = product_text(thing)
        self.assertEqual(thing, [("aab", 0, 1), ("", 1, -1)])
        thing.append(("a", 0, 1))
        found = read_product(text)
        self.assertEqual(found, thing[:2])
        found.append(None)
        self.assertEqual(read_product(text), thing[:2])
        read_product("").append(None)
        self.assertEqual(read_product(""), [])


if __name__ == "__main__":
    unittest.main()
