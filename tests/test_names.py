"""hearpurse.names: what is a name, and what is an amount."""

import unittest

from hearpurse import names
from hearpurse.names import is_amount, is_name
from tests.samples import NO_INTS, NO_NAMES, NO_STRINGS

LETTERS = "abcdefghijklmnopqrstuvwxyz"
CHARACTERS = "\n" + "".join([chr(code) for code in range(32, 127)])


class TestIsName(unittest.TestCase):
    def test_it_is_defined_in_its_file(self):
        self.assertEqual(is_name.__module__, "hearpurse.names")
        self.assertIs(is_name, names.is_name)

    def test_from_1_to_8_letters(self):
        self.assertIs(is_name(""), False)
        for many in range(1, 9):
            with self.subTest(many=many):
                self.assertIs(is_name("a" * many), True)
                self.assertIs(is_name("z" * many), True)
                self.assertIs(is_name(LETTERS[-many:]), True)
        for many in (9, 10, 16, 17, 26, 100):
            with self.subTest(many=many):
                self.assertIs(is_name("a" * many), False)
                self.assertIs(is_name("z" * many), False)

    def test_ordinary_names(self):
        for value in ("a", "z", "az", "purse", "account", "in", "abcdefgh", "none", "true"):
            with self.subTest(value=value):
                self.assertIs(is_name(value), True)

    def test_every_character_alone(self):
        for character in CHARACTERS:
            with self.subTest(character=character):
                self.assertIs(is_name(character), character in LETTERS)

    def test_every_character_at_every_index(self):
        for character in CHARACTERS:
            for many in (2, 8):
                for at in range(many):
                    value = "m" * at + character + "m" * (many - 1 - at)
                    with self.subTest(value=value):
                        self.assertIs(is_name(value), character in LETTERS)

    def test_just_beyond_the_alphabet(self):
        self.assertEqual([ord("a") - 1, ord("z") + 1], [ord("`"), ord("{")])
        for value in ("`", "{", "a`", "z{", "@", "["):
            with self.subTest(value=value):
                self.assertIs(is_name(value), False)

    def test_uppercase_digits_blanks_and_line_feeds(self):
        for value in ("A", "Z", "Ab", "aB", "ABC", "a1", "1a", "0", " ", "a ", " a", "a b", "\n", "a\n", "\na"):
            with self.subTest(value=value):
                self.assertIs(is_name(value), False)

    def test_any_other_value(self):
        for value in NO_NAMES:
            with self.subTest(value=value):
                self.assertIs(is_name(value), False)

    def test_the_parts_of_a_value_do_not_count(self):
        for value in (["a"], ["a", "b"], ("a",), ("a", "b"), {"a": "b"}, {"a": 1, "b": 2}):
            with self.subTest(value=value):
                self.assertIs(is_name(value), False)

    def test_by_its_name(self):
        self.assertIs(is_name(value="a"), True)
        self.assertIs(is_name(value=1), False)


class TestIsAmount(unittest.TestCase):
    def test_it_is_defined_in_its_file(self):
        self.assertEqual(is_amount.__module__, "hearpurse.names")
        self.assertIs(is_amount, names.is_amount)

    def test_from_1_to_the_greatest_amount(self):
        for value in (1, 2, 3, 9, 10, 255, 256, 10 ** 6, 2 ** 29, 10 ** 9 - 1, 10 ** 9):
            with self.subTest(value=value):
                self.assertIs(is_amount(value), True)

    def test_other_integers(self):
        for value in (0, -1, -2, -10 ** 9, 10 ** 9 + 1, 10 ** 10, 2 ** 64, 10 ** 30, -10 ** 30):
            with self.subTest(value=value):
                self.assertIs(is_amount(value), False)

    def test_booleans_are_no_integers(self):
        self.assertIs(is_amount(True), False)
        self.assertIs(is_amount(False), False)

    def test_any_other_value(self):
        for value in NO_INTS:
            with self.subTest(value=value):
                self.assertIs(is_amount(value), False)

    def test_the_parts_of_a_value_do_not_count(self):
        for value in ([1], [1, 2], (1,), (1, 2), {1: 1}, {1: 2, 3: 4}):
            with self.subTest(value=value):
                self.assertIs(is_amount(value), False)

    def test_by_its_name(self):
        self.assertIs(is_amount(value=1), True)
        self.assertIs(is_amount(value="a"), False)


class TestNothingChanges(unittest.TestCase):
    def test_the_values_stay_as_they_are(self):
        before = repr(NO_STRINGS)
        for value in NO_STRINGS:
            is_name(value)
            is_amount(value)
        self.assertEqual(repr(NO_STRINGS), before)


if __name__ == "__main__":
    unittest.main()
