"""hearpurse.forests, [1.2]: the text of a forest, and reading it back; the examples of the document."""

import unittest

from hearpurse.errors import InvalidForest, InvalidText
from hearpurse.forests import Forest
from tests.samples import CHAIN, FLAT, MIXED, NO_STRINGS, SHAPES, all_rows

NINE = "".join([f"account {letter}\n" for letter in "abcdefghi"])


class TestText(unittest.TestCase):
    def test_one_account(self):
        self.assertEqual(Forest([("a", None)]).text, "account a\n")

    def test_one_line_per_account_in_the_order_of_the_rows(self):
        self.assertEqual(Forest([("z", None), ("a", "z")]).text, "account z\naccount a in z\n")
        self.assertEqual(
            Forest(MIXED).text,
            "account a\naccount b in a\naccount r\naccount c in a\n"
            "account d in b\naccount s in r\naccount e in c\naccount f in b\n",
        )

    def test_accounts_called_account_and_in(self):
        self.assertEqual(
            Forest([("in", None), ("account", "in"), ("none", "account"), ("a", None)]).text,
            "account in\naccount account in in\naccount none in account\naccount a\n",
        )

    def test_the_text_is_a_string(self):
        self.assertIs(type(Forest(MIXED).text), str)
        self.assertEqual(Forest(MIXED).text, Forest(MIXED).text)


class TestParse(unittest.TestCase):
    def test_off_the_class_and_off_a_forest(self):
        self.assertIsInstance(vars(Forest)["parse"], staticmethod)
        self.assertIs(type(Forest.parse("account a\n")), Forest)
        self.assertEqual(Forest([("x", None)]).parse("account a\n").names, ("a",))
        self.assertEqual(Forest.parse(text="account a\n").names, ("a",))

    def test_by_hand(self):
        forest = Forest.parse("account z\naccount a in z\naccount b\naccount c in a\n")
        self.assertEqual(forest.names, ("z", "a", "b", "c"))
        self.assertEqual([forest.ancestors(name) for name in forest.names], [["z"], ["a", "z"], ["b"], ["c", "a", "z"]])
        self.assertEqual(forest, Forest([("z", None), ("a", "z"), ("b", None), ("c", "a")]))

    def test_accounts_called_account_and_in(self):
        forest = Forest.parse("account in\naccount account in in\naccount a in account\n")
        self.assertEqual(forest, Forest([("in", None), ("account", "in"), ("a", "account")]))
        forest = Forest.parse("account account\naccount in in account\naccount b in in\n")
        self.assertEqual(forest, Forest([("account", None), ("in", "account"), ("b", "in")]))
        self.assertEqual(Forest.parse("account account\n").names, ("account",))
        self.assertEqual(Forest.parse("account in\n").names, ("in",))

    def read_back(self, rows):
        forest = Forest(rows)
        read = Forest.parse(forest.text)
        self.assertEqual(read, forest)
        self.assertEqual(read.names, forest.names)
        self.assertEqual(read.text, forest.text)

    def test_texts_are_read_back(self):
        for rows in SHAPES:
            with self.subTest(rows=rows):
                self.read_back(rows)
        for many in range(1, 9):
            self.read_back(FLAT[:many])
            self.read_back(CHAIN[:many])

    def test_the_texts_of_all_small_forests_are_read_back(self):
        for many in range(1, 6):
            for rows in all_rows(many):
                self.read_back(rows)

    def test_each_call_returns_a_new_forest(self):
        self.assertIsNot(Forest.parse("account a\n"), Forest.parse("account a\n"))


class TestRefusedTexts(unittest.TestCase):
    def refuse(self, text, line):
        with self.subTest(text=text):
            with self.assertRaises(InvalidText) as caught:
                Forest.parse(text)
            self.assertEqual(caught.exception.line, line)
            self.assertIs(type(caught.exception.line), int)

    def refuse_line(self, line):
        """Refuse a text with the line, after and before lines that are right, with its index."""
        right = "account x\naccount y in x\naccount zz\n"
        self.refuse(f"{line}\n", 0)
        self.refuse(f"{line}", 0)
        self.refuse(f"{line}\n{right}", 0)
        self.refuse(f"account w\n{line}\naccount v\n", 1)
        self.refuse(f"{right}{line}\n", 3)
        self.refuse(f"{right}{line}\n{line}\naccount w in w\n", 3)

    def test_blanks(self):
        self.refuse_line("account  a")
        self.refuse_line("account   a")
        self.refuse_line(" account a")
        self.refuse_line("account a ")
        self.refuse_line("  account a")
        self.refuse_line("account a  ")
        self.refuse_line(" ")
        self.refuse_line("  ")
        right = "account x\n"
        for wrong in ("account a  in x", "account a in  x", "account  a in x", "account a in x ", " account a in x"):
            self.refuse(f"{right}{wrong}\n", 1)
            self.refuse(f"{right}{wrong}\naccount b\n", 1)

    def test_an_empty_line(self):
        self.refuse("\n", 0)
        self.refuse("\n\n", 0)
        self.refuse("\naccount a\n", 0)
        self.refuse("account a\n\n", 1)
        self.refuse("account a\n\naccount b\n", 1)
        self.refuse("account a\naccount b\n\n", 2)
        self.refuse("account a\n\n\naccount b\n", 1)

    def test_other_words(self):
        for line in (
            "a", "account", "accounts a", "Account a", "ACCOUNT a", "acount a", "accoun a", "in a", "a account",
            "account a in", "account a in ", "account ", "account in in", "account a b", "account a b c",
            "account a on x", "account a In x", "account in a in", "account a in in in", "account a in x y",
            "account a account x", "join a 3", "accounta", "account,a", "a in account x", "in a account x",
            "account a x in", "None", "account a in x in x",
        ):
            self.refuse_line(line)
            self.refuse(f"account x\n{line}\n", 1)

    def test_names_that_are_none(self):
        for name in ("A", "aB", "1", "a1", "-", "_", "abcdefghi", "abcdefgh1", "`", "{", "a.", "a,b", "0", "ABC"):
            self.refuse_line(f"account {name}")
            self.refuse(f"account x\naccount {name} in x\n", 1)
            self.refuse(f"account x\naccount a in {name}\n", 1)
            self.refuse(f"account {name}\naccount a in {name}\n", 0)

    def test_a_name_twice(self):
        self.refuse("account a\naccount a\n", 1)
        self.refuse("account a\naccount a in a\n", 1)
        self.refuse("account a\naccount b\naccount a\n", 2)
        self.refuse("account a\naccount b\naccount a in b\n", 2)
        self.refuse("account a\naccount b in a\naccount c\naccount b in a\naccount d\n", 3)
        self.refuse("account in\naccount in\n", 1)

    def test_a_parent_that_stands_later_or_nowhere(self):
        self.refuse("account a in b\n", 0)
        self.refuse("account a in b\naccount b\n", 0)
        self.refuse("account a\naccount b in c\naccount c\n", 1)
        self.refuse("account a\naccount b in c\n", 1)
        self.refuse("account a\naccount b in a\naccount c in d\naccount d\n", 2)
        self.refuse("account a in None\n", 0)
        self.refuse("account a in none\n", 0)
        self.refuse("account a in in\n", 0)
        self.refuse("account a in account\n", 0)

    def test_an_account_inside_itself(self):
        self.refuse("account a in a\n", 0)
        self.refuse("account a\naccount b in b\n", 1)

    def test_the_first_wrong_line_counts(self):
        self.refuse("x\ny\n", 0)
        self.refuse("account a\naccount a\nx\n", 1)
        self.refuse("account a\nx\naccount a\n", 1)
        self.refuse("account a\naccount b in c\naccount a\nx", 1)

    def test_a_missing_last_line_feed(self):
        self.refuse("account a", 1)
        self.refuse("account a\naccount b", 2)
        self.refuse("account a\naccount b in a", 2)
        self.refuse(Forest(MIXED).text[:-1], 8)
        self.refuse(Forest(CHAIN[:8]).text[:-1], 8)

    def test_the_last_line_without_a_line_feed_is_checked(self):
        self.refuse("x", 0)
        self.refuse(" ", 0)
        self.refuse("account a\nx", 1)
        self.refuse("account a\n ", 1)
        self.refuse("account a\naccount a", 1)
        self.refuse("account a\naccount b in c", 1)
        self.refuse("account a ", 0)
        self.refuse("x\naccount a", 0)

    def test_the_empty_string(self):
        with self.assertRaises(InvalidForest):
            Forest.parse("")

    def test_more_than_8_lines(self):
        ten = NINE + "account j in a\n"
        for text in (NINE, ten, NINE.replace("account i", "account i in h")):
            with self.subTest(text=text):
                with self.assertRaises(InvalidForest):
                    Forest.parse(text)
        self.assertEqual(Forest.parse("".join(NINE.splitlines(True)[:8])).names, tuple("abcdefgh"))

    def test_more_than_8_lines_are_refused_after_wrong_lines(self):
        self.refuse(NINE[:-1], 9)
        self.refuse(NINE + "account j", 10)
        self.refuse(NINE + "x\n", 9)
        self.refuse(NINE + "\n", 9)
        self.refuse(NINE + "account a\n", 9)
        self.refuse(NINE + "account j in j\n", 9)
        self.refuse(NINE.replace("account i", "account h"), 8)
        self.refuse(NINE.replace("account i", "account i in j"), 8)
        self.refuse(NINE.replace("account i", "account  i"), 8)
        self.refuse(NINE.replace("account c", "account c in d"), 2)

    def test_values_that_are_no_strings(self):
        for value in NO_STRINGS + [[""], ["account a\n"], ("account a\n",), {"account a\n": None}, ["account a"]]:
            self.refuse(value, 0)


class TestExamples(unittest.TestCase):
    def test_first(self):
        forest = Forest([("a", None), ("b", "a"), ("c", "a")])
        self.assertEqual(
            [forest.ancestors("b"), forest.subtree("a"), forest.text],
            [["b", "a"], ["a", "b", "c"], "account a\naccount b in a\naccount c in a\n"],
        )

    def test_second(self):
        with self.assertRaises(InvalidText) as caught:
            Forest.parse("account a\naccount b in c\n")
        self.assertEqual(caught.exception.line, 1)

    def test_third(self):
        with self.assertRaises(InvalidText) as caught:
            Forest.parse("account a")
        self.assertEqual(caught.exception.line, 1)


if __name__ == "__main__":
    unittest.main()
