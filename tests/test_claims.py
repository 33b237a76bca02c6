"""[2.1] and the errors of stages 2 to 4: which claims, numbers spent, balances and extra deposits are refused."""

import copy
import itertools
import unittest

from hearpurse import entitlements, funding, sensitivity
from hearpurse.errors import InvalidBalances, InvalidClaims, InvalidRank, InvalidSpent, TooMany
from hearpurse.forests import Forest
from tests.samples import NO_INTS, NO_NAMES, NO_STRINGS, nested

ROWS = [("a", None), ("b", "a"), ("c", "a"), ("d", None)]

GOOD = {
    "claims": [("b", 5), ("c", 4), ("a", 3)],
    "spent": [3, 1, 2],
    "balances": {"a": 2, "b": 3, "c": 1},
    "extra": [("a", 1), ("b", 1)],
    "rank": 0,
    "less": 4,
    "amount": 4,
    "result": [3, 1, 2],
    "witness": ["b", "c", "a"],
    "value": ((0, "b", 3), (1, "c", 1), (2, "a", 2)),
}

# Each function with its arguments behind the forest, in their order.
FUNCTIONS = [
    (entitlements.totals, ["balances"]),
    (entitlements.overdrawn, ["claims", "spent", "balances"]),
    (entitlements.entitlements, ["claims", "balances"]),
    (entitlements.certificate, ["claims", "balances"]),
    (entitlements.shows_entitlements, ["claims", "balances", "result", "witness"]),
    (funding.fund, ["claims", "spent", "balances"]),
    (funding.is_plan, ["claims", "spent", "balances", "value"]),
    (sensitivity.gains, ["claims", "balances", "extra"]),
    (sensitivity.release_effect, ["claims", "balances", "rank", "less"]),
    (sensitivity.minimal_deposits, ["claims", "balances", "extra", "rank", "amount"]),
]

RESULTS = [
    {"a": 6, "b": 3, "c": 1, "d": 0}, None, [3, 1, 2], ["b", "c", "a"], True,
    ("paid", GOOD["value"]), True, [1, 0, 1], [-2, 0, 1], [(1,)],
]

ERRORS = {
    "claims": InvalidClaims, "spent": InvalidSpent, "balances": InvalidBalances, "extra": InvalidBalances,
    "rank": InvalidRank, "less": InvalidRank, "amount": InvalidRank,
}

WRONG = {
    "claims": [("x", 1)], "spent": [-1, 0, 0], "balances": {"a": -1}, "extra": [("a", 0)],
    "rank": 3, "less": 6, "amount": -1,
}


def arguments(function, **changed):
    """Return the arguments of the function behind the forest, with those that are changed."""
    names = dict(FUNCTIONS)[function]
    return {name: changed.get(name, GOOD[name]) for name in names}


class Asked(unittest.TestCase):
    def setUp(self):
        self.forest = Forest(ROWS)

    def ask(self, function, **changed):
        return function(self.forest, **arguments(function, **changed))

    def taking(self, name):
        return [function for function, names in FUNCTIONS if name in names]

    def refuse(self, name, value):
        """Refuse the value in every function that takes it."""
        for function in self.taking(name):
            with self.subTest(function=function.__name__, value=value):
                with self.assertRaises(ERRORS[name]) as caught:
                    self.ask(function, **{name: value})
                self.assertIs(type(caught.exception), ERRORS[name])

    def take(self, name, value, **others):
        for function in self.taking(name):
            with self.subTest(function=function.__name__, value=value):
                self.ask(function, **{name: value, **others})


class TestInterface(Asked):
    def test_each_function_is_defined_in_its_file(self):
        for function, _ in FUNCTIONS:
            module = function.__module__
            self.assertIn(module, ("hearpurse.entitlements", "hearpurse.funding", "hearpurse.sensitivity"))
        self.assertEqual(
            [function.__module__.rpartition(".")[2] for function, _ in FUNCTIONS],
            ["entitlements"] * 5 + ["funding"] * 2 + ["sensitivity"] * 3,
        )

    def test_by_position_and_by_name(self):
        for (function, names), expected in zip(FUNCTIONS, RESULTS):
            with self.subTest(function=function.__name__):
                values = [GOOD[name] for name in names]
                self.assertEqual(function(self.forest, *values), expected)
                self.assertEqual(function(forest=self.forest, **arguments(function)), expected)

    def test_tuples_in_place_of_lists(self):
        for (function, names), expected in zip(FUNCTIONS, RESULTS):
            changed = {name: tuple(GOOD[name]) for name in ("claims", "spent", "extra") if name in names}
            with self.subTest(function=function.__name__):
                self.assertEqual(self.ask(function, **changed), expected)

    def test_the_order_of_the_keys_does_not_matter(self):
        for (function, _), expected in zip(FUNCTIONS, RESULTS):
            for pairs in itertools.permutations([("a", 2), ("b", 3), ("c", 1), ("d", 0)]):
                with self.subTest(function=function.__name__, pairs=pairs):
                    found = self.ask(function, balances=dict(pairs))
                    self.assertEqual(found, expected)
                    if isinstance(found, dict):
                        self.assertEqual(list(found), ["a", "b", "c", "d"])

    def test_the_same_question_has_the_same_answer(self):
        for (function, _), expected in zip(FUNCTIONS, RESULTS):
            for _ in range(3):
                self.assertEqual(self.ask(function), expected)

    def test_what_was_handed_in_stays_as_it_is(self):
        text = self.forest.text
        for function, names in FUNCTIONS:
            with self.subTest(function=function.__name__):
                values = copy.deepcopy(arguments(function))
                function(self.forest, **values)
                self.assertEqual(values, arguments(function))
                self.assertEqual(repr(values), repr(arguments(function)))
                self.assertEqual(self.forest.text, text)

    def test_results_are_new(self):
        for (function, _), expected in zip(FUNCTIONS, RESULTS):
            found = self.ask(function)
            if isinstance(found, dict):
                found["a"] = 99
                found["x"] = 1
            elif isinstance(found, list):
                found[0] = "x"
                found.append(1)
            self.assertEqual(self.ask(function), expected)


class TestOrderOfErrors(Asked):
    def test_the_error_of_the_first_wrong_argument(self):
        for function, names in FUNCTIONS:
            checked = [name for name in names if name in WRONG]
            for many in range(1, len(checked) + 1):
                for wrong in itertools.combinations(checked, many):
                    with self.subTest(function=function.__name__, wrong=wrong):
                        with self.assertRaises(ERRORS[wrong[0]]):
                            self.ask(function, **{name: WRONG[name] for name in wrong})

    def test_balances_before_extra_deposits_and_both_before_their_number(self):
        many = [("a", 1)] * 13
        for extra in (many, many[:12] + [("a", 0)], many + [("x", 1)], tuple(many) + (None,)):
            with self.assertRaises(InvalidBalances):
                self.ask(sensitivity.minimal_deposits, balances={"a": -1}, extra=extra, rank=9)
        for extra in (many[:12] + [("a", 0)], many + [("x", 1)], tuple(many) + (None,)):
            with self.assertRaises(InvalidBalances):
                self.ask(sensitivity.minimal_deposits, extra=extra, rank=9, amount=-1)
        with self.assertRaises(TooMany) as caught:
            self.ask(sensitivity.minimal_deposits, extra=many, rank=9, amount=-1)
        self.assertEqual(caught.exception.limit, 12)

    def test_too_few_numbers_for_wrong_claims(self):
        for function in (entitlements.overdrawn, funding.fund, funding.is_plan):
            with self.assertRaises(InvalidClaims):
                self.ask(function, claims=[("a", -1)], spent=[])
            with self.assertRaises(InvalidSpent):
                self.ask(function, spent=[], balances=None)

    def test_any_value_is_no_error_of_result_witness_and_plan(self):
        for value in NO_NAMES + ["a"]:
            with self.subTest(value=value):
                self.assertIs(self.ask(entitlements.shows_entitlements, result=value), False)
                self.assertIs(self.ask(entitlements.shows_entitlements, witness=value), False)
                self.assertIs(self.ask(funding.is_plan, value=value), False)

    def test_errors_change_nothing(self):
        for function, names in FUNCTIONS:
            for name in names:
                if name in WRONG:
                    values = copy.deepcopy(arguments(function, **{name: WRONG[name]}))
                    with self.assertRaises(ERRORS[name]):
                        function(self.forest, **values)
                    self.assertEqual(values, arguments(function, **{name: WRONG[name]}))


class TestClaims(Asked):
    def take_claims(self, claims):
        numbers = {"spent": [0] * len(claims), "rank": 0, "less": 0}
        for function in self.taking("claims"):
            if claims or function not in (sensitivity.release_effect, sensitivity.minimal_deposits):
                with self.subTest(function=function.__name__, claims=claims):
                    self.ask(function, claims=claims, **numbers)
                    self.ask(function, claims=tuple(claims), **numbers)

    def test_0_20_and_21_pairs(self):
        for pair in (("a", 0), ("b", 7), ("d", 10 ** 9)):
            for many in (0, 1, 2, 19, 20):
                self.take_claims([pair] * many)
            for many in (21, 22, 40):
                self.refuse("claims", [pair] * many)
                self.refuse("claims", tuple([pair] * many))

    def test_no_claims(self):
        for claims in ([], ()):
            self.assertEqual(entitlements.entitlements(self.forest, claims, {"a": 5}), [])
            self.assertEqual(entitlements.certificate(self.forest, claims, {"a": 5}), [])
            self.assertIs(entitlements.overdrawn(self.forest, claims, [], {}), None)
            self.assertIs(entitlements.shows_entitlements(self.forest, claims, {"a": 5}, [], []), True)
            self.assertEqual(funding.fund(self.forest, claims, (), {"a": 5}), ("paid", ()))
            self.assertIs(funding.is_plan(self.forest, claims, [], {"a": 5}, ()), True)
            self.assertEqual(sensitivity.gains(self.forest, claims, {"a": 5}, [("a", 1)]), [])

    def refuse_everywhere(self, pair):
        """Refuse the pair alone, first, in the midst and last."""
        others = [("a", 1), ("b", 2)]
        for claims in ([pair], [pair] + others, [others[0], pair, others[1]], others + [pair]):
            self.refuse("claims", claims)
            self.refuse("claims", tuple(claims))

    def test_a_pair_that_is_a_list(self):
        self.refuse_everywhere(["a", 1])
        self.refuse("claims", [["b", 5], ["c", 4], ["a", 3]])

    def test_pairs_of_other_lengths_and_kinds(self):
        for pair in [(), ("a",), ("a", 1, 1), ("a", 1, None), (1,), ("a", "b"), ("ab"), {"a": 1, "b": 2}, {"a": 1}]:
            self.refuse_everywhere(pair)
        for value in NO_NAMES:
            self.refuse_everywhere(value)

    def test_accounts(self):
        for account in ("a", "b", "c", "d"):
            self.take_claims([(account, 1)])
        for account in NO_NAMES + ["x", "e", "aa", "names"]:
            self.refuse_everywhere((account, 1))

    def test_numbers(self):
        for claim in (0, 1, 2, 10 ** 9 - 1, 10 ** 9):
            self.take_claims([("a", claim)])
            self.take_claims([("b", 3), ("a", claim), ("c", 4)])
        for claim in (10 ** 9 + 1, 10 ** 12, 10 ** 30, -1, -2, -10 ** 9, True, False):
            self.refuse_everywhere(("a", claim))
        for claim in NO_INTS:
            self.refuse_everywhere(("a", claim))

    def test_the_two_parts_exchanged(self):
        self.refuse_everywhere((1, "a"))

    def test_values_that_are_no_list(self):
        for value in NO_STRINGS + ["", "a", "ab", {("a", 1): 1}, {"a": 1}]:
            if value not in ([], ()):
                self.refuse("claims", value)


class TestSpent(Asked):
    def test_one_number_per_claim(self):
        pair = ("a", 5)
        for many in (0, 1, 2, 3, 20):
            claims = [pair] * many
            for length in (many - 2, many - 1, many + 1, many + 2, 2 * many + 1):
                if length >= 0:
                    for function in self.taking("spent"):
                        for spent in ([0] * length, (0,) * length):
                            with self.subTest(function=function.__name__, many=many, length=length):
                                with self.assertRaises(InvalidSpent):
                                    self.ask(function, claims=claims, spent=spent)
            self.take("spent", [0] * many, claims=claims)
            self.take("spent", (0,) * many, claims=claims)

    def test_numbers(self):
        for number in (0, 1, 5, 10 ** 9, 10 ** 9 + 1, 10 ** 12 + 1, 10 ** 40):
            for at in range(3):
                spent = [0, 0, 0]
                spent[at] = number
                self.take("spent", spent)
                self.take("spent", tuple(spent))
        for number in NO_INTS + [-1, -2, -10 ** 9, -10 ** 40]:
            for at in range(3):
                spent = [0, 0, 0]
                spent[at] = number
                self.refuse("spent", spent)
                self.refuse("spent", tuple(spent))

    def test_values_that_are_no_list(self):
        for value in NO_STRINGS + ["", "a", "abc", "000", {0: 0, 1: 1, 2: 2}, {"a": 1, "b": 2, "c": 3}]:
            self.refuse("spent", value)
        for value in (None, 0, True, "", {}):
            for function in self.taking("spent"):
                with self.assertRaises(InvalidSpent):
                    self.ask(function, claims=[], spent=value)


class TestBalances(Asked):
    def test_numbers(self):
        for number in (0, 1, 10 ** 9, 10 ** 9 + 1, 10 ** 12 - 1, 10 ** 12):
            for account in ("a", "b", "d"):
                self.take("balances", {account: number})
                self.take("balances", {"c": 4, account: number})
        for number in NO_INTS + [-1, -2, -10 ** 12, 10 ** 12 + 1, 10 ** 13, 10 ** 40]:
            for account in ("a", "b", "d"):
                self.refuse("balances", {account: number})
                self.refuse("balances", {"c": 4, account: number})
                self.refuse("balances", {account: number, "c": 4})

    def test_some_of_the_accounts(self):
        for many in range(5):
            for names in itertools.permutations(["a", "b", "c", "d"], many):
                self.take("balances", {name: 7 for name in names})

    def test_keys_that_are_no_account(self):
        keys = [value for value in NO_NAMES if isinstance(value, (str, int)) or value is None or value == ()]
        for key in keys + ["x", "e", "aa", "names", ("a", None), ("a",), (("b", 1), "c")]:
            for number in (0, 1):
                self.refuse("balances", {key: number})
                self.refuse("balances", {"a": 1, key: number})
                self.refuse("balances", {key: number, "a": 1})

    def test_values_that_are_no_dict(self):
        for value in NO_STRINGS + ["", "a", "abc", [("a", 1)], (("a", 1),), [("a", 1), ("b", 2)], ["a"], ("a",)]:
            if value != {}:
                self.refuse("balances", value)


class TestExtraDeposits(Asked):
    def refuse_everywhere(self, pair):
        others = [("a", 1), ("b", 2)]
        for extra in ([pair], [pair] + others, [others[0], pair, others[1]], others + [pair]):
            self.refuse("extra", extra)
            self.refuse("extra", tuple(extra))

    def test_any_length(self):
        for many in (0, 1, 2, 12):
            self.take("extra", [("a", 1)] * many)
            self.take("extra", (("b", 10 ** 9),) * many)
        for many in (13, 21, 100, 1500):
            self.assertEqual(len(self.ask(sensitivity.gains, extra=[("a", 1)] * many)), 3)

    def test_pairs_of_other_lengths_and_kinds(self):
        for pair in [["a", 1], (), ("a",), ("a", 1, 1), (1,), ("a", "b"), (1, "a"), "ab", {"a": 1, "b": 2}]:
            self.refuse_everywhere(pair)
        for value in NO_NAMES:
            self.refuse_everywhere(value)

    def test_accounts(self):
        for account in ("a", "b", "c", "d"):
            self.take("extra", [(account, 1)])
        for account in NO_NAMES + ["x", "e", "aa"]:
            self.refuse_everywhere((account, 1))

    def test_amounts(self):
        for amount in (1, 2, 10 ** 9):
            self.take("extra", [("a", amount)])
        for amount in NO_INTS + [0, -1, -10 ** 9, 10 ** 9 + 1, 10 ** 12, 10 ** 40]:
            self.refuse_everywhere(("a", amount))

    def test_values_that_are_no_list(self):
        for value in NO_STRINGS + ["", "a", "ab", {"a": 1}, {("a", 1): 1}, nested(18, (), lambda inner: (inner,))]:
            if value not in ([], ()):
                self.refuse("extra", value)


if __name__ == "__main__":
    unittest.main()
