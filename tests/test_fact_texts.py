"""hearpurse.facts, [5.2]: the text of a fact, and reading it back."""

import unittest

from hearpurse.errors import InvalidText
from hearpurse.facts import fact_text, is_fact, parse_fact
from hearpurse.forests import Forest
from tests.samples import NO_NAMES, NO_STRINGS

LARGEST = 10 ** 9

FOREST = Forest([("a", None), ("purse", "a"), ("spender", "a"), ("abcdefgh", "purse")])

TEXTS = [
    (("spender", 1, "a", 4), "spender 1 a 4"),
    (("spender", 20, "purse", LARGEST), "spender 20 purse 1000000000"),
    (("spender", 10, "spender", 10), "spender 10 spender 10"),
    (("request", 2, "abcdefgh", 1), "request 2 abcdefgh 1"),
    (("request", 20, "a", 999999999), "request 20 a 999999999"),
    (("deposit", 1, "a", 100), "deposit 1 a 100"),
    (("deposit", 999, "purse", LARGEST), "deposit 999 purse 1000000000"),
    (("release", 1, 1), "release 1 1"),
    (("release", 20, LARGEST), "release 20 1000000000"),
    (("consent", 2, 1), "consent 2 1"),
    (("consent", 20, 19), "consent 20 19"),
    (("refuse", 2, 1), "refuse 2 1"),
    (("refuse", 20, 10), "refuse 20 10"),
    (("withdrawn", 1), "withdrawn 1"),
    (("withdrawn", 20), "withdrawn 20"),
]

ACCOUNTS = ["a", "purse", "spender", "abcdefgh"]
AMOUNTS = [1, 9, 10, 11, 99, 100, 101, 12345, LARGEST - 1, LARGEST]

EVERY = (
    [(word, place, account, amount)
     for word in ("spender", "request") for place in range(1, 21) for account in ACCOUNTS for amount in AMOUNTS]
    + [("deposit", mark, account, 70) for mark in range(1, 1000) for account in ACCOUNTS]
    + [("release", place, total) for place in range(1, 21) for total in AMOUNTS]
    + [(word, request, spender)
       for word in ("consent", "refuse") for request in range(1, 21) for spender in range(1, request)]
    + [("withdrawn", place) for place in range(1, 21)]
)


class TestTexts(unittest.TestCase):
    def refuse(self, text):
        with self.subTest(text=text):
            with self.assertRaises(InvalidText) as caught:
                parse_fact(text, FOREST)
            self.assertEqual(caught.exception.line, 0)
            self.assertIs(type(caught.exception.line), int)

    def test_they_are_defined_in_their_file(self):
        self.assertEqual([fact_text.__module__, parse_fact.__module__], ["hearpurse.facts"] * 2)

    def test_by_hand_both_ways(self):
        for fact, text in TEXTS:
            with self.subTest(fact=fact):
                self.assertEqual(fact_text(fact), text)
                self.assertEqual(parse_fact(text, FOREST), fact)
                self.assertEqual(fact_text(fact=fact), text)
                self.assertEqual(parse_fact(text=text, forest=FOREST), fact)

    def test_every_text_is_read_back(self):
        for fact in EVERY:
            text = fact_text(fact)
            self.assertIs(type(text), str)
            read = parse_fact(text, FOREST)
            self.assertEqual(read, fact)
            self.assertIs(type(read), tuple)
            self.assertEqual([type(part) for part in read], [type(part) for part in fact])
            self.assertIs(is_fact(read, FOREST), True)
            self.assertEqual(text.split(" "), [str(part) for part in fact])

    def test_two_blanks(self):
        for _, text in TEXTS:
            words = text.split(" ")
            for at in range(1, len(words)):
                self.refuse(" ".join(words[:at]) + "  " + " ".join(words[at:]))
            self.refuse(text.replace(" ", "  "))

    def test_a_blank_or_a_line_feed_at_either_end(self):
        for _, text in TEXTS:
            for ends in (" ", "  ", "\n", "\n\n", " \n"):
                self.refuse(ends + text)
                self.refuse(text + ends)
                self.refuse(ends + text + ends)

    def test_line_feeds_and_other_signs_for_blanks(self):
        for _, text in TEXTS:
            for sign in ("\n", ",", ", ", "-", "_", "", ";", "\n "):
                self.refuse(text.replace(" ", sign))
                self.refuse(text.replace(" ", sign, 1))
            self.refuse(text + "\n" + text)

    def test_a_part_more_or_less(self):
        for _, text in TEXTS:
            words = text.split(" ")
            for at in range(len(words)):
                self.refuse(" ".join(words[:at]))
                self.refuse(" ".join(words[at + 1:]))
                self.refuse(" ".join(words[:at] + words[at + 1:]))
                self.refuse(" ".join(words[:at + 1] + words[at:]))
            for more in ("1", "a", "spender", "0"):
                self.refuse(text + " " + more)
                self.refuse(more + " " + text)

    def numbers(self):
        """Yield the words in front of each number of a text, the number, and the words behind it."""
        for _, text in TEXTS:
            words = text.split(" ")
            for at, word in enumerate(words):
                if word.isdigit():
                    yield words[:at], word, words[at + 1:]

    def test_leading_zeros(self):
        for before, word, behind in self.numbers():
            for zeros in ("0", "00", "0" * 20):
                self.refuse(" ".join(before + [zeros + word] + behind))

    def test_signs(self):
        for before, word, behind in self.numbers():
            for changed in ("+" + word, "-" + word, "--" + word, word + "-", "+ " + word, "- " + word):
                self.refuse(" ".join(before + [changed] + behind))

    def test_other_ways_to_write_a_number(self):
        for before, word, behind in self.numbers():
            changes = (word + ".", word + ".0", word + "_0", "1_0", "_" + word, "0x1", "0b1", "1e3", "1e0", "one", "I")
            for changed in changes + (word + "a", "a" + word, "'1'", "(1)", "1,000", "True", "None", word + "+0"):
                self.refuse(" ".join(before + [changed] + behind))

    def test_numbers_out_of_range(self):
        for before, _, behind in self.numbers():
            for number in ("0", "-1", "1000000001", "2000000000", "9999999999", "10000000000", "1" * 5000, "0" * 5000):
                self.refuse(" ".join(before + [number] + behind))
        for text in (
            "spender 21 a 4", "spender 0 a 4", "spender 1 a 0", "request 21 a 4", "request 1 a 0", "deposit 0 a 4",
            "deposit 1000 a 4", "deposit 1 a 0", "release 0 1", "release 21 1", "release 1 0", "consent 21 1",
            "refuse 21 1", "consent 2 0", "refuse 0 0", "withdrawn 0", "withdrawn 21",
        ):
            self.refuse(text)

    def test_the_places_of_answers(self):
        for word in ("consent", "refuse"):
            for request in range(0, 23):
                for spender in range(0, 23):
                    text = f"{word} {request} {spender}"
                    if 1 <= spender < request <= 20:
                        self.assertEqual(parse_fact(text, FOREST), (word, request, spender))
                    else:
                        self.refuse(text)

    def test_unknown_kinds(self):
        for _, text in TEXTS:
            rest = text.partition(" ")[2]
            for word in ("Spender", "SPENDER", "spenders", "row", "a", "", "1", "withdraw", "join", "'spender'"):
                self.refuse(word + " " + rest)
            self.refuse(rest)
            self.refuse(text.upper())
            self.refuse(text.partition(" ")[0])

    def test_unknown_accounts(self):
        for word in ("spender", "request", "deposit"):
            for account in ["x", "aa", "A", "Purse", "abcdefg", "abcdefghi", "1", "None", "account", "request", "a\n"]:
                self.refuse(f"{word} 1 {account} 4")
        with self.assertRaises(InvalidText) as caught:
            parse_fact("spender 1 purse 4", Forest([("a", None)]))
        self.assertEqual(caught.exception.line, 0)

    def test_the_empty_text_and_blanks(self):
        for text in ("", " ", "  ", "   ", "\n", "\n\n", "0", "1", "a", "-", "spender", "spender 1", "1 2 3 4"):
            self.refuse(text)

    def test_texts_of_tuples(self):
        for fact, _ in TEXTS:
            self.refuse(str(fact))
            self.refuse(str(list(fact)))

    def test_values_that_are_no_strings(self):
        for value in NO_STRINGS:
            self.refuse(value)
        for fact, text in TEXTS:
            for value in (fact, list(fact), [text], (text,), {text: text}, text.split(" ")):
                self.refuse(value)

    def test_strings_that_are_no_texts(self):
        for value in NO_NAMES:
            self.refuse(value)

    def test_what_was_handed_in_stays_as_it_is(self):
        for fact, _ in TEXTS:
            before = repr(fact)
            fact_text(fact)
            self.assertEqual(repr(fact), before)
        self.assertEqual(FOREST.names, ("a", "purse", "spender", "abcdefgh"))


if __name__ == "__main__":
    unittest.main()
