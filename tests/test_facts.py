"""hearpurse.facts, [5.1] and the conflicts of [5.2]: what is a fact, and which two facts conflict."""

import itertools
import unittest

from hearpurse import facts
from hearpurse.facts import do_conflict, is_fact
from hearpurse.forests import Forest
from tests.samples import CHAIN, EVERY_FACT, NO_INTS, NO_NAMES, NO_STRINGS, is_against, nested

ABC = [("a", None), ("b", "a"), ("c", "a")]
LARGEST = 10 ** 9

# One good fact of each kind, and what each of its parts is.
KINDS = [
    (("spender", 1, "a", 4), ("place", "account", "amount")),
    (("request", 2, "b", 3), ("place", "account", "amount")),
    (("deposit", 1, "c", 5), ("mark", "account", "amount")),
    (("release", 1, 2), ("place", "amount")),
    (("consent", 9, 4), ("request", "answering")),
    (("refuse", 9, 4), ("request", "answering")),
    (("withdrawn", 2), ("place",)),
]

WORDS = [fact[0] for fact, _ in KINDS]

RIGHT = {
    "place": [1, 2, 10, 19, 20],
    "account": ["a", "b", "c"],
    "amount": [1, 2, 20, 21, 999, 1000, LARGEST - 1, LARGEST],
    "mark": [1, 2, 20, 21, 500, 998, 999],
    "request": [5, 6, 19, 20],
    "answering": [1, 2, 7, 8],
}

NO_NUMBERS = NO_INTS + [0, -1, -2, 10 ** 12, 10 ** 40, -10 ** 40]

WRONG = {
    "place": NO_NUMBERS + [21, 22, 999, LARGEST],
    "account": NO_NAMES + ["x", "d", "aa", "ab", "names"],
    "amount": NO_NUMBERS + [LARGEST + 1],
    "mark": NO_NUMBERS + [1000, 1001, LARGEST],
    "request": NO_NUMBERS + [1, 2, 3, 4, 21, 22, LARGEST],
    "answering": NO_NUMBERS + [9, 10, 19, 20, 21, LARGEST],
}


class TestIsFact(unittest.TestCase):
    def setUp(self):
        self.forest = Forest(ABC)

    def judge(self, value, expected):
        with self.subTest(value=value):
            self.assertIs(is_fact(value, self.forest), expected)

    def test_it_is_defined_in_its_file(self):
        self.assertEqual(is_fact.__module__, "hearpurse.facts")
        self.assertEqual(do_conflict.__module__, "hearpurse.facts")
        self.assertIs(facts.is_fact, is_fact)

    def test_by_name(self):
        self.assertIs(is_fact(value=("withdrawn", 1), forest=self.forest), True)
        self.assertIs(is_fact(value=("withdrawn", 0), forest=self.forest), False)

    def test_each_part_at_its_bounds_and_just_beyond_them(self):
        for fact, parts in KINDS:
            self.judge(fact, True)
            for at, part in enumerate(parts, start=1):
                for value in RIGHT[part]:
                    self.judge(fact[:at] + (value,) + fact[at + 1:], True)
                for value in WRONG[part]:
                    self.judge(fact[:at] + (value,) + fact[at + 1:], False)

    def test_true_is_no_1(self):
        for fact, parts in KINDS:
            for at, part in enumerate(parts, start=1):
                if part != "account":
                    self.judge(fact[:at] + (True,) + fact[at + 1:], False)
                    self.judge(fact[:at] + (False,) + fact[at + 1:], False)

    def test_a_part_more_or_less(self):
        for fact, _ in KINDS:
            for many in range(len(fact)):
                self.judge(fact[:many], False)
                self.judge(fact[many + 1:], False)
            for value in [1, 2, "a", None, ()] + [fact[1], fact[-1]]:
                self.judge(fact + (value,), False)
                self.judge((value,) + fact, False)
                self.judge(fact[:1] + (value,) + fact[1:], False)

    def test_a_list_for_the_tuple(self):
        for fact, _ in KINDS:
            self.judge(list(fact), False)
            self.judge((fact,), False)
            self.judge([fact], False)
            self.judge(" ".join([str(part) for part in fact]), False)
            self.judge({part: part for part in fact}, False)

    def test_two_parts_exchanged(self):
        self.judge(("spender", "a", 1, 4), False)
        self.judge(("deposit", "a", 1, 4), False)
        self.judge(("spender", 1, 4, "a"), False)
        for fact, _ in KINDS:
            self.judge(tuple(reversed(fact)), False)

    def test_other_words(self):
        words = ["Spender", "SPENDER", "spender ", " spender", "spenders", "", "a", "refused", "withdraw", "join"]
        for word in words + NO_STRINGS:
            for fact, _ in KINDS:
                self.judge((word,) + fact[1:], False)
            self.judge((word,), False)
        for word in WORDS:
            self.judge((word,), False)
            self.judge(word, False)
            self.judge([word], False)

    def test_the_word_of_another_kind(self):
        same = [("spender", "request", "deposit"), ("consent", "refuse")]
        for fact, _ in KINDS:
            for word in WORDS:
                expected = word == fact[0] or any([word in words and fact[0] in words for words in same])
                # Two places are also a place and a total.
                expected = expected or (word == "release" and fact[0] in ("consent", "refuse"))
                self.judge((word,) + fact[1:], expected)

    def test_the_places_of_a_request_and_an_answering_spender(self):
        for word in ("consent", "refuse"):
            for request in range(-1, 23):
                for spender in range(-1, 23):
                    self.judge((word, request, spender), 1 <= spender < request <= 20)

    def test_any_other_value(self):
        for value in NO_NAMES + ["a", "spender", "withdrawn 1", nested(18, ("withdrawn", 1), lambda inner: (inner,))]:
            self.judge(value, False)

    def test_the_accounts_are_those_of_the_forest(self):
        for rows in ([("b", None)], [("b", None), ("a", "b")], CHAIN[:8]):
            names = [name for name, _ in rows]
            for account in ("a", "b", "c", "purse", "spender"):
                for word in ("spender", "request", "deposit"):
                    self.assertIs(is_fact((word, 1, account, 1), Forest(rows)), account in names)

    def test_accounts_with_the_names_of_kinds(self):
        forest = Forest([("spender", None), ("deposit", "spender"), ("consent", None), ("refuse", None)])
        self.assertIs(is_fact(("spender", 1, "spender", 1), forest), True)
        self.assertIs(is_fact(("deposit", 1, "deposit", 1), forest), True)
        self.assertIs(is_fact(("consent", "consent", 1), forest), False)

    def test_nothing_changes(self):
        text = self.forest.text
        before = repr(NO_STRINGS)
        for value in NO_STRINGS:
            is_fact(value, self.forest)
            is_fact(("spender", value, value, value), self.forest)
        self.assertEqual([repr(NO_STRINGS), self.forest.text], [before, text])


class TestConflicts(unittest.TestCase):
    def judge(self, one, other, expected):
        with self.subTest(one=one, other=other):
            self.assertIs(do_conflict(one, other), expected)
            self.assertIs(do_conflict(other, one), expected)
            self.assertIs(do_conflict(one=other, other=one), expected)

    def test_every_two_facts_in_both_orders(self):
        forest = Forest([("a", None), ("b", None)])
        conflicts = 0
        for one, other in itertools.product(EVERY_FACT, EVERY_FACT):
            expected = one != other and (is_against(one, other) or is_against(other, one))
            self.judge(one, other, expected)
            conflicts += expected
        self.assertEqual([is_fact(fact, forest) for fact in EVERY_FACT], [True] * 51)
        self.assertGreater(conflicts, 200)

    def test_a_fact_with_itself(self):
        for fact in EVERY_FACT + [fact for fact, _ in KINDS]:
            self.judge(fact, fact, False)
            self.judge(fact, tuple(list(fact)), False)

    def test_two_rows_of_one_place(self):
        spender = ("spender", 2, "a", 4)
        for other in (("spender", 2, "a", 5), ("spender", 2, "b", 4), ("request", 2, "a", 4), ("request", 2, "b", 1)):
            self.judge(spender, other, True)
        for other in (("spender", 1, "a", 4), ("spender", 3, "a", 5), ("request", 1, "a", 4), ("request", 20, "a", 4)):
            self.judge(spender, other, False)
        self.judge(("request", 2, "a", 4), ("request", 2, "a", 5), True)
        self.judge(("request", 2, "a", 4), ("request", 3, "a", 4), False)

    def test_two_deposits_of_one_mark(self):
        self.judge(("deposit", 7, "a", 4), ("deposit", 7, "a", 5), True)
        self.judge(("deposit", 7, "a", 4), ("deposit", 7, "b", 4), True)
        self.judge(("deposit", 7, "a", 4), ("deposit", 8, "a", 4), False)

    def test_a_deposit_and_any_other_fact(self):
        for one, other in itertools.product(EVERY_FACT, EVERY_FACT):
            if one[0] == "deposit" and other[0] != "deposit":
                self.judge(one, other, False)

    def test_a_consent_and_a_refusal(self):
        self.judge(("consent", 5, 2), ("refuse", 5, 2), True)
        self.judge(("consent", 5, 2), ("refuse", 5, 3), False)
        self.judge(("consent", 5, 2), ("refuse", 6, 2), False)
        self.judge(("consent", 5, 2), ("consent", 5, 3), False)
        self.judge(("refuse", 5, 2), ("refuse", 6, 2), False)
        self.judge(("refuse", 5, 2), ("refuse", 5, 1), False)

    def test_a_release_and_a_row(self):
        self.judge(("release", 2, 1), ("request", 2, "a", 9), True)
        self.judge(("release", 2, 1), ("request", 3, "a", 9), False)
        # Whatever the claim is.
        self.judge(("release", 2, 9), ("spender", 2, "a", 1), False)
        self.judge(("release", 2, 1), ("release", 2, 2), False)

    def test_a_release_an_answer_and_a_withdrawal_of_one_place(self):
        self.judge(("release", 5, 1), ("consent", 5, 2), False)
        self.judge(("release", 2, 1), ("consent", 5, 2), False)
        self.judge(("release", 5, 1), ("withdrawn", 5), False)
        self.judge(("refuse", 5, 2), ("withdrawn", 5), False)
        self.judge(("consent", 6, 5), ("withdrawn", 5), False)
        self.judge(("withdrawn", 5), ("withdrawn", 6), False)

    def test_two_answers_that_suppose_different_rows(self):
        for one, other in itertools.product(("consent", "refuse"), repeat=2):
            self.judge((one, 5, 2), (other, 6, 5), False)
            self.judge((one, 5, 2), (other, 2, 1), False)

    def test_an_answer_and_a_row(self):
        for word in ("consent", "refuse"):
            answer = (word, 5, 2)
            self.judge(answer, ("spender", 5, "a", 1), True)
            self.judge(answer, ("request", 2, "a", 1), True)
            self.judge(answer, ("request", 5, "a", 1), False)
            self.judge(answer, ("spender", 2, "a", 1), False)
            for place in (1, 3, 4, 6, 20):
                self.judge(answer, ("spender", place, "a", 1), False)
                self.judge(answer, ("request", place, "a", 1), False)

    def test_a_withdrawal_and_a_row(self):
        self.judge(("withdrawn", 5), ("spender", 5, "a", 1), True)
        self.judge(("withdrawn", 5), ("request", 5, "a", 1), False)
        self.judge(("withdrawn", 5), ("spender", 4, "a", 1), False)

    def test_a_mark_and_a_place_have_nothing_to_do_with_each_other(self):
        self.judge(("deposit", 5, "a", 1), ("request", 5, "a", 1), False)
        self.judge(("deposit", 5, "a", 1), ("withdrawn", 5), False)
        self.judge(("deposit", 5, "a", 1), ("release", 5, 1), False)


if __name__ == "__main__":
    unittest.main()
