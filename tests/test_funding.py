"""hearpurse.funding, [3.1]: which balances pay for what was spent, and what is a plan."""

import copy
import itertools
import unittest

from hearpurse.entitlements import entitlements, overdrawn
from hearpurse.forests import Forest
from hearpurse.funding import fund, is_plan
from tests.samples import (
    CHAIN, FORESTS, NO_INTS, NO_NAMES, SHAPES, Mixed, above, cases, inside, model_overdrawn, nested,
)

ABC = [("a", None), ("b", "a"), ("c", "a")]
CLAIMS = [("b", 5), ("c", 4), ("a", 3)]
BALANCES = {"a": 2, "b": 3, "c": 1}
SPENT = [3, 1, 2]
PLAN = ((0, "b", 3), (1, "c", 1), (2, "a", 2))

LARGEST = 10 ** 9
MOST = 10 ** 12


def pays(rows, claims, spent, balances, triples):
    """Tell whether triples of the right kinds pay each claim exactly, from its accounts, and none pays too much."""
    for rank, account, _ in triples:
        if account not in inside(rows, claims[rank][0]):
            return False
    for rank in range(len(claims)):
        if sum([part for other, _, part in triples if other == rank]) != spent[rank]:
            return False
    for name, _ in rows:
        if sum([part for _, account, part in triples if account == name]) > balances.get(name, 0):
            return False
    return True


def model_is_plan(rows, claims, spent, balances, value):
    names = [name for name, _ in rows]
    if not isinstance(value, tuple):
        return False
    for triple in value:
        if not isinstance(triple, tuple) or len(triple) != 3:
            return False
        rank, account, part = triple
        if isinstance(rank, bool) or rank not in list(range(len(claims))) or account not in names:
            return False
        if isinstance(part, bool) or not isinstance(part, int) or part < 1:
            return False
    pairs = [triple[:2] for triple in value]
    if list(value) != sorted(value) or any([pairs.count(pair) > 1 for pair in pairs]):
        return False
    return pays(rows, claims, spent, balances, value)


def all_plans(rows, claims, spent, balances):
    """Return all plans, by trying for each pair of a rank and an account of its subtree every part."""
    pairs = [(rank, name) for rank, (account, _) in enumerate(claims) for name in inside(rows, account)]
    found = []
    for parts in itertools.product(*[range(min(spent[rank], balances.get(name, 0)) + 1) for rank, name in pairs]):
        triples = sorted([(rank, name, part) for (rank, name), part in zip(pairs, parts) if part > 0])
        if pays(rows, claims, spent, balances, triples):
            found.append(tuple(triples))
    return found


class TestExamples(unittest.TestCase):
    def test_the_example_of_the_document(self):
        forest = Forest(ABC)
        self.assertEqual(
            [fund(forest, CLAIMS, [3, 1, 2], BALANCES), fund(forest, CLAIMS, [3, 2, 0], BALANCES)],
            [("paid", PLAN), ("over", "c")],
        )
        self.assertIs(is_plan(forest, CLAIMS, [3, 1, 2], BALANCES, PLAN), True)
        self.assertIs(is_plan(forest, CLAIMS, [3, 2, 0], BALANCES, PLAN), False)


class TestFund(unittest.TestCase):
    def check(self, rows, claims, spent, balances):
        """Check one answer against the definitions, and return whether it is a plan."""
        forest = Forest(rows)
        answer = fund(forest, claims, spent, balances)
        self.assertIs(type(answer), tuple)
        self.assertEqual(fund(forest, claims, spent, balances), answer)
        over = model_overdrawn(rows, claims, spent, balances)
        self.assertEqual(overdrawn(forest, claims, spent, balances), over)
        if over is not None:
            self.assertEqual(answer, ("over", over))
            return False
        self.assertEqual([answer[0], len(answer)], ["paid", 2])
        self.assertIs(model_is_plan(rows, claims, spent, balances, answer[1]), True)
        self.assertIs(is_plan(forest, claims, spent, balances, answer[1]), True)
        return True

    def test_many_cases(self):
        mixed = Mixed(21)
        paid = 0
        for rows, claims, balances in cases(3000, 22):
            spent = [mixed.below(4) for _ in claims]
            with self.subTest(rows=rows, claims=claims, spent=spent, balances=balances):
                paid += self.check(rows, claims, spent, balances)
        self.assertTrue(500 < paid < 2500)

    def test_every_case_of_one_forest(self):
        for spent in itertools.product(range(3), repeat=3):
            for numbers in itertools.product(range(3), repeat=3):
                balances = dict(zip("abc", numbers))
                for accounts in ("abc", "bca", "cab", "aab", "bba"):
                    self.check(ABC, [(account, 1) for account in accounts], spent, balances)

    def test_the_entitlements_are_always_paid(self):
        for rows, claims, balances in cases(1500, 23, most_claims=9):
            spent = entitlements(Forest(rows), claims, balances)
            with self.subTest(rows=rows, claims=claims, spent=spent, balances=balances):
                self.assertTrue(self.check(rows, claims, spent, balances))

    def test_there_is_a_plan_exactly_if_no_account_is_overdrawn(self):
        mixed = Mixed(24)
        plans = 0
        for rows in FORESTS[:9]:
            names = [name for name, _ in rows]
            for _ in range(60):
                claims = [(mixed.one_of(names), 1) for _ in range(2)]
                spent = [mixed.below(3) for _ in claims]
                balances = {name: mixed.below(3) for name in names}
                found = all_plans(rows, claims, spent, balances)
                self.assertEqual(fund(Forest(rows), claims, spent, balances)[0], "paid" if found else "over")
                for plan in found:
                    self.assertIs(is_plan(Forest(rows), claims, spent, balances, plan), True)
                plans += len(found)
        self.assertGreater(plans, 300)

    def test_an_outer_senior_leaves_the_inner_ones_their_money(self):
        chain = [("a", None), ("b", "a"), ("c", "b")]
        self.assertEqual(
            fund(Forest(chain), [("a", 9), ("b", 9), ("c", 9)], [1, 2, 3], {"a": 1, "b": 2, "c": 3}),
            ("paid", ((0, "a", 1), (1, "b", 2), (2, "c", 3))),
        )
        self.assertTrue(self.check(ABC, [("a", 3), ("a", 3), ("b", 3), ("c", 4)], [3, 0, 2, 4], {"b": 5, "c": 4}))
        self.assertTrue(self.check(ABC, [("a", 9), ("c", 1)], [3, 1], {"a": 1, "b": 2, "c": 1}))

    def test_the_rows_in_another_order(self):
        for rows in itertools.permutations([("b", "a"), ("c", "a"), ("d", "b")]):
            if rows.index(("b", "a")) < rows.index(("d", "b")):
                every = [("a", None)] + list(rows)
                claims = [("a", 9), ("b", 9), ("d", 9), ("c", 9)]
                self.assertTrue(self.check(every, claims, [4, 3, 2, 1], {"a": 1, "b": 2, "c": 3, "d": 4}))

    def test_nothing_spent(self):
        for rows in SHAPES:
            claims = [(name, 3) for name, _ in rows]
            self.assertEqual(fund(Forest(rows), claims, [0] * len(rows), {}), ("paid", ()))
            self.assertIs(is_plan(Forest(rows), claims, [0] * len(rows), {}, ()), True)

    def test_spent_beyond_the_claims(self):
        forest = Forest(ABC)
        self.assertEqual(fund(forest, [("b", 0)], [3], BALANCES), ("paid", ((0, "b", 3),)))
        self.assertEqual(fund(forest, [("b", 0)], [4], BALANCES), ("over", "b"))
        self.assertTrue(self.check(ABC, [("a", 1), ("b", 1)], [4, 2], BALANCES))
        self.assertEqual(fund(forest, [("a", 1), ("b", 1)], [5, 2], BALANCES), ("over", "a"))

    def test_one_claim_from_all_accounts(self):
        self.assertEqual(
            fund(Forest(ABC), [("a", 6)], [6], BALANCES),
            ("paid", ((0, "a", 2), (0, "b", 3), (0, "c", 1))),
        )

    def test_ascending_by_the_names_and_not_by_the_rows(self):
        forest = Forest([("z", None), ("m", "z"), ("a", "m")])
        plan = ((0, "a", 1), (0, "m", 1), (0, "z", 1))
        self.assertEqual(fund(forest, [("z", 3)], [3], {"z": 1, "m": 1, "a": 1}), ("paid", plan))

    def test_ten_ranks_and_more(self):
        rows = [("a", None), ("b", "a")]
        self.assertTrue(self.check(rows, [("a", 2)] * 20, [2] * 20, {"a": 17, "b": 23}))
        self.assertTrue(self.check(rows, [("b", 2), ("a", 2)] * 10, [2] * 20, {"a": 17, "b": 23}))
        self.assertFalse(self.check(rows, [("b", 2), ("a", 2)] * 10, [2] * 20, {"a": 21, "b": 19}))

    def test_great_numbers(self):
        rows = CHAIN[:8]
        names = [name for name, _ in rows]
        claims = [(name, LARGEST) for name in names]
        balances = {name: MOST for name in names}
        self.assertTrue(self.check(rows, claims, [MOST] * 8, balances))
        self.assertTrue(self.check(rows, claims, [8 * MOST] + [0] * 7, balances))
        self.assertFalse(self.check(rows, claims, [8 * MOST + 1] + [0] * 7, balances))
        self.assertFalse(self.check(rows, claims, [0] * 7 + [10 ** 40], balances))

    def test_the_order_of_the_keys_does_not_matter(self):
        forest = Forest(ABC)
        answers = [
            fund(forest, [("a", 3), ("a", 2)], [2, 2], dict(pairs))
            for pairs in itertools.permutations(BALANCES.items())
        ]
        self.assertEqual(answers, [answers[0]] * 6)

    def test_what_was_handed_in_stays_as_it_is(self):
        mixed = Mixed(25)
        for rows, claims, balances in cases(200, 26):
            spent = [mixed.below(3) for _ in claims]
            kept = copy.deepcopy([claims, spent, balances])
            forest = Forest(rows)
            answer = fund(forest, claims, spent, balances)
            is_plan(forest, claims, spent, balances, answer[1])
            self.assertEqual([claims, spent, balances], kept)
            self.assertEqual(forest.names, tuple([name for name, _ in rows]))


class TestIsPlan(unittest.TestCase):
    def setUp(self):
        self.forest = Forest(ABC)

    def judge(self, value, expected):
        with self.subTest(value=value):
            self.assertIs(is_plan(self.forest, CLAIMS, SPENT, BALANCES, value), expected)

    def test_a_part_changed(self):
        self.judge(PLAN, True)
        for at in range(3):
            for change in (-3, -2, -1, 1, 2, 100):
                rank, account, part = PLAN[at]
                self.judge(PLAN[:at] + ((rank, account, part + change),) + PLAN[at + 1:], False)

    def test_a_part_of_0_or_less(self):
        for extra in ((0, "b", 0), (2, "b", 0), (2, "c", 0), (2, "b", -1)):
            self.judge(tuple(sorted(PLAN + (extra,))), False)
        self.assertIs(is_plan(self.forest, [("a", 1)], [0], BALANCES, ((0, "a", 0),)), False)
        self.assertIs(is_plan(self.forest, [("a", 1)], [0], BALANCES, ()), True)
        self.assertIs(is_plan(self.forest, [("a", 1)], [1], BALANCES, ((0, "a", 2), (0, "b", -1))), False)

    def test_exchanged(self):
        for order in itertools.permutations(PLAN):
            self.judge(order, order == PLAN)

    def test_exchanged_within_a_rank(self):
        plan = ((0, "a", 2), (0, "b", 3), (0, "c", 1))
        for order in itertools.permutations(plan):
            self.assertIs(is_plan(self.forest, [("a", 6)], [6], BALANCES, order), order == plan)

    def test_doubled_and_left_out(self):
        for at in range(3):
            self.judge(PLAN[:at] + PLAN[at:at + 1] + PLAN[at:], False)
            self.judge(PLAN[:at] + PLAN[at + 1:], False)
        self.judge((), False)
        self.judge(PLAN + PLAN, False)

    def test_a_pair_in_two_parts(self):
        self.judge(((0, "b", 1), (0, "b", 2), (1, "c", 1), (2, "a", 2)), False)
        self.judge(((0, "b", 2), (0, "b", 1), (1, "c", 1), (2, "a", 2)), False)
        self.judge(((0, "b", 3), (1, "c", 1), (2, "a", 1), (2, "a", 1)), False)

    def test_an_account_that_is_not_inside(self):
        claims = [("b", 5), ("a", 5)]
        balances = {"a": 3, "b": 3, "c": 3}
        for account, expected in (("b", True), ("a", False), ("c", False)):
            self.assertIs(is_plan(self.forest, claims, [2, 0], balances, ((0, account, 2),)), expected)
        for account in ("a", "b", "c"):
            self.assertIs(is_plan(self.forest, claims, [0, 2], balances, ((1, account, 2),)), True)
        chain = Forest([("a", None), ("b", "a"), ("c", "b"), ("r", None)])
        balances["r"] = 3
        for account, expected in (("b", True), ("c", True), ("a", False), ("r", False)):
            self.assertIs(is_plan(chain, [("b", 5)], [2], balances, ((0, account, 2),)), expected)

    def test_ranks(self):
        for rank in (-3, -2, -1, 3, 4, 10 ** 30, "0", None, (0,)):
            for at in range(3):
                changed = PLAN[:at] + ((rank,) + PLAN[at][1:],) + PLAN[at + 1:]
                self.judge(changed, False)
        self.judge(((-1, "a", 2), (0, "b", 3), (1, "c", 1)), False)
        self.judge(((-3, "b", 3), (-2, "c", 1), (-1, "a", 2)), False)
        self.assertIs(is_plan(self.forest, [], [], BALANCES, ((0, "a", 1),)), False)
        self.assertIs(is_plan(self.forest, [], [], BALANCES, ()), True)

    def test_a_balance_that_pays_too_much_in_all(self):
        claims = [("a", 5), ("a", 5)]
        self.assertIs(is_plan(self.forest, claims, [2, 3], BALANCES, ((0, "a", 2), (1, "b", 3))), True)
        self.assertIs(is_plan(self.forest, claims, [2, 2], BALANCES, ((0, "b", 2), (1, "b", 2))), False)
        self.assertIs(is_plan(self.forest, claims, [2, 1], BALANCES, ((0, "b", 2), (1, "b", 1))), True)
        self.assertIs(is_plan(self.forest, [("a", 5)], [1], {"b": 5}, ((0, "a", 1),)), False)

    def test_true_for_1_and_false_for_0(self):
        self.judge(((False, "b", 3), (1, "c", 1), (2, "a", 2)), False)
        self.judge(((0, "b", 3), (True, "c", 1), (2, "a", 2)), False)
        self.judge(((0, "b", 3), (1, "c", True), (2, "a", 2)), False)

    def test_a_list_for_a_tuple(self):
        self.judge(list(PLAN), False)
        for at in range(3):
            self.judge(PLAN[:at] + (list(PLAN[at]),) + PLAN[at + 1:], False)
        self.assertIs(is_plan(self.forest, [], [], {}, []), False)
        self.assertIs(is_plan(self.forest, [("a", 1)], [0], {}, []), False)

    def test_triples_of_other_lengths_and_kinds(self):
        for other in NO_NAMES + ["abc", (0, "b"), (0, "b", 3, 0), (0, "b", 3, None), ("b", 0, 3), (0, 3, "b")]:
            for at in range(3):
                self.judge(PLAN[:at] + (other,) + PLAN[at + 1:], False)
            self.judge(PLAN + (other,), False)
            self.judge((other,) + PLAN, False)
            self.judge((other,), False)

    def test_parts_of_any_other_kind(self):
        for at in range(3):
            rank, account, part = PLAN[at]
            for value in NO_INTS:
                self.judge(PLAN[:at] + ((value, account, part),) + PLAN[at + 1:], False)
                self.judge(PLAN[:at] + ((rank, account, value),) + PLAN[at + 1:], False)
            for value in NO_NAMES + ["x", "aa"]:
                self.judge(PLAN[:at] + ((rank, value, part),) + PLAN[at + 1:], False)

    def test_any_other_value(self):
        for value in NO_NAMES + ["a", {PLAN[0]: 1}, nested(17, PLAN, lambda inner: (inner,)), ("paid", PLAN)]:
            self.judge(value, False)

    def test_every_value_of_a_small_kind(self):
        rows = [("a", None), ("b", "a")]
        forest = Forest(rows)
        triples = list(itertools.product([0, 1, 2], ["a", "b", "x"], [0, 1, 2]))
        right = 0
        for spent in ([1, 1], [0, 2], [2, 0]):
            for balances in ({"a": 2, "b": 2}, {"a": 1, "b": 1}, {"b": 2}):
                for many in range(3):
                    for value in itertools.product(triples, repeat=many):
                        expected = model_is_plan(rows, [("b", 1), ("a", 1)], spent, balances, value)
                        self.assertIs(is_plan(forest, [("b", 1), ("a", 1)], spent, balances, value), expected)
                        right += expected
        self.assertGreater(right, 10)

    def test_the_model_of_these_tests(self):
        """A check of the tests themselves, by hand."""
        self.assertEqual([inside(ABC, "a"), above(ABC, "c")], [["a", "b", "c"], ["c", "a"]])
        self.assertIs(model_is_plan(ABC, CLAIMS, SPENT, BALANCES, PLAN), True)
        self.assertIs(model_is_plan(ABC, CLAIMS, SPENT, BALANCES, PLAN[:2]), False)
        self.assertEqual(
            all_plans(ABC, [("a", 1)], [2], {"a": 1, "b": 1, "c": 1}),
            [((0, "b", 1), (0, "c", 1)), ((0, "a", 1), (0, "c", 1)), ((0, "a", 1), (0, "b", 1))],
        )


if __name__ == "__main__":
    unittest.main()
