"""hearpurse.entitlements, [2.2]: totals, overdrawn accounts, entitlements and their certificates."""

import copy
import itertools
import unittest

from hearpurse.entitlements import certificate, entitlements, overdrawn, shows_entitlements, totals
from hearpurse.forests import Forest
from tests.samples import (
    CHAIN, FORESTS, MIXED, NO_INTS, NO_NAMES, SHAPES, Mixed, above, all_rows, cases, model_certificate,
    model_entitlements, model_overdrawn, model_tight, model_totals, model_used, nested,
)

ABC = [("a", None), ("b", "a"), ("c", "a")]
CLAIMS = [("b", 5), ("c", 4), ("a", 3)]
BALANCES = {"a": 2, "b": 3, "c": 1}

LARGEST = 10 ** 9
MOST = 10 ** 12


def every_case(rows, most_claims, most_claim, most_balance):
    """Yield all claims and balances of a forest, up to these numbers; a balance of 0 is sometimes left out."""
    names = [name for name, _ in rows]
    pairs = list(itertools.product(names, range(most_claim + 1)))
    for many in range(most_claims + 1):
        for claims in itertools.product(pairs, repeat=many):
            for numbers in itertools.product(range(-1, most_balance + 1), repeat=len(names)):
                yield list(claims), {name: number for name, number in zip(names, numbers) if number >= 0}


class TestExamples(unittest.TestCase):
    def test_the_example_of_the_document(self):
        forest = Forest(ABC)
        self.assertEqual(
            [totals(forest, BALANCES), entitlements(forest, CLAIMS, BALANCES), certificate(forest, CLAIMS, BALANCES)],
            [{"a": 6, "b": 3, "c": 1}, [3, 1, 2], ["b", "c", "a"]],
        )
        self.assertIs(shows_entitlements(forest, CLAIMS, BALANCES, [3, 1, 2], ["b", "c", "a"]), True)


class TestTotals(unittest.TestCase):
    def test_by_hand(self):
        forest = Forest(MIXED)
        balances = {"f": 1, "e": 20, "d": 300, "r": 4000, "a": 50000}
        self.assertEqual(
            totals(forest, balances),
            {"a": 50321, "b": 301, "r": 4000, "c": 20, "d": 300, "s": 0, "e": 20, "f": 1},
        )

    def test_no_balances(self):
        for rows in SHAPES:
            self.assertEqual(totals(Forest(rows), {}), {name: 0 for name, _ in rows})

    def test_against_the_definition(self):
        for rows, _, balances in cases(1000, 1):
            with self.subTest(rows=rows, balances=balances):
                found = totals(Forest(rows), balances)
                self.assertIs(type(found), dict)
                self.assertEqual(found, model_totals(rows, balances))

    def test_in_the_order_of_the_names(self):
        for rows in SHAPES:
            names = [name for name, _ in rows]
            for order in (names, list(reversed(names)), sorted(names), names[1:], names[-1:]):
                found = totals(Forest(rows), {name: 1 for name in order})
                self.assertEqual(list(found), names)

    def test_a_new_dict_each_time(self):
        forest = Forest(ABC)
        balances = {"a": 2, "b": 3, "c": 1}
        found = totals(forest, balances)
        found["a"] = 99
        found.pop("b")
        self.assertEqual(totals(forest, balances), {"a": 6, "b": 3, "c": 1})
        self.assertEqual(balances, {"a": 2, "b": 3, "c": 1})
        single = Forest([("a", None)])
        self.assertIsNot(totals(single, {"a": 1}), totals(single, {"a": 1}))
        alone = {"a": 1}
        self.assertIsNot(totals(single, alone), alone)

    def test_great_numbers(self):
        forest = Forest(CHAIN[:8])
        names = list(forest.names)
        found = totals(forest, {name: MOST for name in names})
        self.assertEqual(found, {name: (8 - at) * MOST for at, name in enumerate(names)})


class TestOverdrawn(unittest.TestCase):
    def test_none(self):
        forest = Forest(ABC)
        for spent in ([0, 0, 0], [3, 1, 2], (3, 1, 2), [3, 0, 3], [0, 0, 6], [0, 1, 5], [2, 1, 3]):
            self.assertIs(overdrawn(forest, CLAIMS, spent, BALANCES), None)

    def test_one(self):
        forest = Forest(ABC)
        self.assertEqual(overdrawn(forest, CLAIMS, [4, 1, 1], BALANCES), "b")
        self.assertEqual(overdrawn(forest, CLAIMS, [3, 2, 1], BALANCES), "c")
        self.assertEqual(overdrawn(forest, CLAIMS, [3, 1, 3], BALANCES), "a")
        self.assertEqual(overdrawn(forest, CLAIMS, [0, 0, 7], BALANCES), "a")

    def test_the_first_of_several(self):
        forest = Forest(ABC)
        self.assertEqual(overdrawn(forest, CLAIMS, [4, 2, 0], BALANCES), "b")
        self.assertEqual(overdrawn(forest, CLAIMS, [4, 2, 1], BALANCES), "a")
        other = Forest([("a", None), ("c", "a"), ("b", "a")])
        self.assertEqual(overdrawn(other, CLAIMS, [4, 2, 0], BALANCES), "c")
        flat = Forest([("z", None), ("m", None), ("a", None)])
        claims = [("a", 1), ("m", 1), ("z", 1)]
        self.assertEqual(overdrawn(flat, claims, [1, 1, 1], {}), "z")
        self.assertEqual(overdrawn(flat, claims, [1, 1, 1], {"z": 1}), "m")
        self.assertEqual(overdrawn(flat, claims, [1, 1, 1], {"z": 1, "m": 1}), "a")
        self.assertIs(overdrawn(flat, claims, [1, 1, 1], {"z": 1, "m": 1, "a": 1}), None)

    def test_more_spent_than_was_claimed(self):
        forest = Forest(ABC)
        self.assertIs(overdrawn(forest, [("a", 0)], [6], BALANCES), None)
        self.assertEqual(overdrawn(forest, [("a", 0)], [7], BALANCES), "a")
        self.assertIs(overdrawn(forest, [("b", 1), ("b", 0)], [2, 1], BALANCES), None)
        self.assertEqual(overdrawn(forest, [("b", 1), ("b", 0)], [2, 2], BALANCES), "b")
        self.assertEqual(overdrawn(forest, [("a", 1)], [10 ** 40], {"a": MOST}), "a")

    def test_the_rest_of_the_forest_pays_nothing(self):
        forest = Forest([("a", None), ("b", "a"), ("r", None)])
        self.assertEqual(overdrawn(forest, [("b", 1)], [1], {"a": 9, "r": 9}), "b")
        self.assertEqual(overdrawn(forest, [("a", 1)], [1], {"r": 9}), "a")
        self.assertIs(overdrawn(forest, [("a", 1)], [1], {"b": 1}), None)

    def test_against_the_definition(self):
        mixed = Mixed(5)
        for rows, claims, balances in cases(2000, 2):
            spent = [mixed.below(4) for _ in claims]
            with self.subTest(rows=rows, claims=claims, spent=spent, balances=balances):
                found = overdrawn(Forest(rows), claims, spent, balances)
                self.assertEqual(found, model_overdrawn(rows, claims, spent, balances))


class TestEntitlements(unittest.TestCase):
    def check(self, rows, claims, balances):
        found = entitlements(Forest(rows), claims, balances)
        self.assertIs(type(found), list)
        self.assertEqual(found, model_entitlements(rows, claims, balances))

    def test_enough_money(self):
        forest = Forest(ABC)
        self.assertEqual(entitlements(forest, CLAIMS, {"a": 3, "b": 5, "c": 4}), [5, 4, 3])
        self.assertEqual(entitlements(forest, CLAIMS, {"b": 8, "c": 4}), [5, 4, 3])

    def test_no_money(self):
        for rows in SHAPES:
            claims = [(name, 5) for name, _ in rows]
            self.assertEqual(entitlements(Forest(rows), claims, {}), [0] * len(rows))

    def test_the_money_of_an_outer_account_is_not_for_the_inner_ones(self):
        forest = Forest([("a", None), ("b", "a"), ("c", "b")])
        self.assertEqual(entitlements(forest, [("b", 5), ("c", 5), ("a", 5)], {"a": 4}), [0, 0, 4])
        self.assertEqual(entitlements(forest, [("b", 5), ("c", 5), ("a", 5)], {"c": 4}), [4, 0, 0])

    def test_seniors_first(self):
        forest = Forest([("a", None)])
        claims = [("a", 5), ("a", 4), ("a", 3)]
        self.assertEqual(
            [entitlements(forest, claims, {"a": money}) for money in (0, 4, 5, 6, 9, 10, 12, 13)],
            [[0, 0, 0], [4, 0, 0], [5, 0, 0], [5, 1, 0], [5, 4, 0], [5, 4, 1], [5, 4, 3], [5, 4, 3]],
        )

    def test_an_outer_senior_uses_what_is_inside(self):
        forest = Forest(ABC)
        self.assertEqual(entitlements(forest, [("a", 6), ("b", 5), ("c", 4)], BALANCES), [6, 0, 0])
        self.assertEqual(entitlements(forest, [("a", 4), ("b", 5), ("c", 4)], BALANCES), [4, 2, 0])
        self.assertEqual(entitlements(forest, [("a", 4), ("c", 4), ("b", 5)], BALANCES), [4, 1, 1])

    def test_claims_of_0(self):
        forest = Forest(ABC)
        self.assertEqual(entitlements(forest, [("b", 0), ("a", 0), ("c", 9)], BALANCES), [0, 0, 1])

    def test_every_small_case(self):
        for rows in all_rows(1) + all_rows(2):
            for claims, balances in every_case(rows, 2, 2, 2):
                self.check(rows, claims, balances)

    def test_every_claim_of_one_forest(self):
        for claims, balances in every_case(ABC, 2, 2, 1):
            self.check(ABC, claims, balances)

    def test_many_cases(self):
        for rows, claims, balances in cases(3000, 3):
            with self.subTest(rows=rows, claims=claims, balances=balances):
                self.check(rows, claims, balances)

    def test_twenty_claims(self):
        for rows, claims, balances in cases(60, 4, most_claims=20, most=9):
            claims = (claims * 20)[:20]
            with self.subTest(rows=rows, claims=claims, balances=balances):
                self.check(rows, claims, balances)

    def test_great_numbers(self):
        forest = Forest(CHAIN[:8])
        names = list(forest.names)
        last = names[-1]
        self.assertEqual(entitlements(forest, [(last, LARGEST)] * 20, {last: MOST}), [LARGEST] * 20)
        self.assertEqual(
            entitlements(forest, [(last, LARGEST)] * 20, {last: 7 * LARGEST + 3}),
            [LARGEST] * 7 + [3] + [0] * 12,
        )
        self.assertEqual(
            entitlements(forest, [(names[0], LARGEST)] * 20, {last: 7 * LARGEST + 3, names[0]: 5 * LARGEST - 4}),
            [LARGEST] * 11 + [LARGEST - 1] + [0] * 8,
        )

    def test_what_was_handed_in_stays_as_it_is(self):
        for rows, claims, balances in cases(100, 6):
            forest = Forest(rows)
            kept = copy.deepcopy([claims, balances])
            result = entitlements(forest, claims, balances)
            witness = certificate(forest, claims, balances)
            held = copy.deepcopy([result, witness])
            shows_entitlements(forest, claims, balances, result, witness)
            overdrawn(forest, claims, result, balances)
            totals(forest, balances)
            self.assertEqual([claims, balances], kept)
            self.assertEqual([result, witness], held)
            self.assertEqual(forest.names, tuple([name for name, _ in rows]))


class TestGuarantees(unittest.TestCase):
    """Guarantees (b) and (c)."""

    def test_more_money_never_lowers_an_entitlement(self):
        for rows, claims, balances in cases(400, 7):
            forest = Forest(rows)
            before = entitlements(forest, claims, balances)
            for name, _ in rows:
                for more in (1, 3):
                    after = entitlements(forest, claims, {**balances, name: balances.get(name, 0) + more})
                    self.assertTrue(all([new >= old for old, new in zip(before, after)]))
                    self.assertLessEqual(sum(after) - sum(before), more)

    def test_a_smaller_claim_never_lowers_the_entitlement_of_another_one(self):
        for rows, claims, balances in cases(400, 8):
            forest = Forest(rows)
            before = entitlements(forest, claims, balances)
            for rank, (account, claim) in enumerate(claims):
                for smaller in range(claim):
                    after = entitlements(forest, claims[:rank] + [(account, smaller)] + claims[rank + 1:], balances)
                    self.assertLessEqual(after[rank], before[rank])
                    after[rank] = before[rank]
                    self.assertTrue(all([new >= old for old, new in zip(before, after)]))

    def test_juniors_do_not_count(self):
        for rows, claims, balances in cases(400, 9):
            forest = Forest(rows)
            whole = entitlements(forest, claims, balances)
            for many in range(len(claims)):
                self.assertEqual(entitlements(forest, claims[:many], balances), whole[:many])

    def test_no_account_is_overdrawn_by_the_entitlements(self):
        for rows, claims, balances in cases(400, 10):
            forest = Forest(rows)
            self.assertIs(overdrawn(forest, claims, entitlements(forest, claims, balances), balances), None)

    def test_a_certificate_shows_the_entitlements(self):
        for rows, claims, balances in cases(2000, 11):
            with self.subTest(rows=rows, claims=claims, balances=balances):
                forest = Forest(rows)
                result = entitlements(forest, claims, balances)
                witness = certificate(forest, claims, balances)
                self.assertIs(shows_entitlements(forest, claims, balances, result, witness), True)
                for rank, (_, claim) in enumerate(claims):
                    self.assertEqual(witness[rank] is None, result[rank] == claim)


class TestCertificate(unittest.TestCase):
    def test_a_claim_that_is_met(self):
        forest = Forest([("a", None), ("b", "a")])
        self.assertEqual(certificate(forest, [("b", 3), ("a", 2)], {"a": 2, "b": 3}), [None, None])
        self.assertEqual(certificate(forest, [("b", 3), ("a", 2)], {"a": 9, "b": 9}), [None, None])
        self.assertEqual(certificate(forest, [("b", 0), ("a", 0)], {}), [None, None])

    def test_an_inner_account_is_used_up(self):
        forest = Forest([("a", None), ("b", "a")])
        self.assertEqual(certificate(forest, [("b", 4)], {"a": 2, "b": 3}), ["b"])
        self.assertEqual(certificate(forest, [("b", 2), ("b", 2)], {"a": 2, "b": 3}), [None, "b"])

    def test_an_outer_account_is_used_up(self):
        forest = Forest([("a", None), ("b", "a")])
        self.assertEqual(certificate(forest, [("a", 4), ("b", 2)], {"a": 2, "b": 3}), [None, "a"])
        self.assertEqual(certificate(forest, [("a", 5), ("b", 2)], {"a": 2, "b": 3}), [None, "a"])

    def test_both_are_used_up(self):
        forest = Forest([("a", None), ("b", "a")])
        self.assertEqual(certificate(forest, [("a", 2), ("b", 4)], {"a": 2, "b": 3}), [None, "b"])
        self.assertEqual(certificate(forest, [("b", 4), ("a", 3)], {"a": 2, "b": 3}), ["b", "a"])
        self.assertEqual(certificate(forest, [("b", 3), ("a", 2), ("b", 1)], {"a": 2, "b": 3}), [None, None, "b"])

    def test_an_account_in_the_midst(self):
        forest = Forest([("a", None), ("b", "a"), ("c", "b")])
        claims = [("b", 4), ("c", 4)]
        self.assertEqual(certificate(forest, claims, {"a": 5, "b": 2, "c": 4}), [None, "b"])
        self.assertEqual(certificate(forest, claims, {"b": 4, "c": 3}), [None, "c"])
        self.assertEqual(certificate(forest, claims, {"c": 4}), [None, "b"])

    def test_tight_at_its_own_rank_and_not_only_later(self):
        forest = Forest([("a", None), ("b", "a"), ("c", "a")])
        # At rank 0 the account a still has 3 left; at rank 1 it is used up.
        self.assertEqual(certificate(forest, [("b", 5), ("c", 3), ("b", 1)], {"b": 2, "c": 3}), ["b", None, "b"])
        # Nothing is in b itself, but for c's money a would not be tight at rank 0.
        self.assertEqual(certificate(forest, [("b", 1), ("a", 3)], {"c": 3}), ["b", None])

    def test_against_the_definition(self):
        for rows, claims, balances in cases(2000, 12):
            with self.subTest(rows=rows, claims=claims, balances=balances):
                found = certificate(Forest(rows), claims, balances)
                self.assertIs(type(found), list)
                self.assertEqual(found, model_certificate(rows, claims, balances))

    def test_great_numbers(self):
        forest = Forest(CHAIN[:8])
        last = forest.names[-1]
        self.assertEqual(
            certificate(forest, [(last, LARGEST)] * 20, {last: 7 * LARGEST + 3, "a": MOST}),
            [None] * 7 + [last] * 13,
        )


def model_shows(rows, claims, balances, result, witness):
    """Follow the words of the document, for lists of the right lengths."""
    for number, (_, claim) in zip(result, claims):
        if isinstance(number, bool) or not isinstance(number, int) or not 0 <= number <= claim:
            return False
    if model_overdrawn(rows, claims, result, balances) is not None:
        return False
    for rank, (_, claim) in enumerate(claims):
        tight = model_tight(rows, claims, result, balances, rank)
        if not (witness[rank] is None if result[rank] == claim else witness[rank] in tight):
            return False
    return True


class TestShowsEntitlements(unittest.TestCase):
    def setUp(self):
        self.forest = Forest(ABC)

    def shows(self, result, witness):
        return shows_entitlements(self.forest, CLAIMS, BALANCES, result, witness)

    def test_another_tight_ancestor(self):
        forest = Forest([("a", None), ("b", "a")])
        claims = [("a", 2), ("b", 4)]
        balances = {"a": 2, "b": 3}
        self.assertIs(shows_entitlements(forest, claims, balances, [2, 3], [None, "b"]), True)
        self.assertIs(shows_entitlements(forest, claims, balances, [2, 3], [None, "a"]), True)
        self.assertIs(shows_entitlements(forest, claims, balances, [2, 3], ["a", "b"]), False)

    def test_a_result_with_one_number_changed(self):
        for at in range(3):
            for change in (-2, -1, 1, 2):
                result = [3, 1, 2]
                result[at] += change
                self.assertIs(self.shows(result, ["b", "c", "a"]), False)

    def test_a_witness_with_one_part_changed(self):
        for at, good in enumerate(["b", "c", "a"]):
            for other in [value for value in NO_NAMES + ["a", "b", "c", "x"] if value != good]:
                witness = ["b", "c", "a"]
                witness[at] = other
                with self.subTest(witness=witness):
                    self.assertIs(self.shows([3, 1, 2], witness), False)

    def test_a_result_with_a_part_of_another_kind(self):
        for at in range(3):
            for other in NO_INTS:
                result = [3, 1, 2]
                result[at] = other
                with self.subTest(result=result):
                    self.assertIs(self.shows(result, ["b", "c", "a"]), False)

    def test_true_is_no_1_and_false_is_no_0(self):
        forest = Forest([("a", None)])
        self.assertIs(shows_entitlements(forest, [("a", 1)], {"a": 1}, [1], [None]), True)
        self.assertIs(shows_entitlements(forest, [("a", 1)], {"a": 1}, [True], [None]), False)
        self.assertIs(shows_entitlements(forest, [("a", 1)], {}, [0], ["a"]), True)
        self.assertIs(shows_entitlements(forest, [("a", 1)], {}, [False], ["a"]), False)
        self.assertIs(shows_entitlements(forest, [("a", 0)], {}, [0], [None]), True)
        self.assertIs(shows_entitlements(forest, [("a", 0)], {}, [False], [None]), False)
        self.assertIs(shows_entitlements(forest, [("a", 0)], {}, [0], [False]), False)

    def test_none_where_an_account_is_due_and_the_other_way_round(self):
        forest = Forest([("a", None)])
        self.assertIs(shows_entitlements(forest, [("a", 2)], {"a": 1}, [1], [None]), False)
        self.assertIs(shows_entitlements(forest, [("a", 2)], {"a": 1}, [1], ["a"]), True)
        self.assertIs(shows_entitlements(forest, [("a", 1)], {"a": 1}, [1], ["a"]), False)

    def test_a_tight_account_that_is_no_ancestor(self):
        forest = Forest([("a", None), ("b", "a"), ("r", None)])
        claims = [("a", 1), ("b", 9), ("a", 9)]
        balances = {"a": 0, "b": 4, "r": 0}
        self.assertIs(shows_entitlements(forest, claims, balances, [1, 3, 0], [None, "a", "a"]), True)
        self.assertIs(shows_entitlements(forest, claims, balances, [1, 3, 0], [None, "r", "a"]), False)
        self.assertIs(shows_entitlements(forest, claims, balances, [1, 3, 0], [None, "a", "r"]), False)
        self.assertIs(shows_entitlements(forest, claims, balances, [1, 3, 0], [None, "b", "a"]), False)
        flat = Forest([("a", None), ("b", "a"), ("c", "b")])
        self.assertIs(shows_entitlements(flat, [("b", 2)], {"b": 1}, [1], ["b"]), True)
        self.assertIs(shows_entitlements(flat, [("b", 2)], {"b": 1}, [1], ["a"]), True)
        self.assertIs(shows_entitlements(flat, [("b", 2)], {"b": 1}, [1], ["c"]), False)

    def test_an_account_that_is_tight_only_at_a_later_rank(self):
        forest = Forest([("a", None), ("b", "a")])
        claims = [("b", 5), ("a", 9)]
        self.assertIs(shows_entitlements(forest, claims, {"a": 2, "b": 3}, [3, 2], ["b", "a"]), True)
        self.assertIs(shows_entitlements(forest, claims, {"a": 2, "b": 3}, [3, 2], ["a", "a"]), False)

    def test_a_result_by_which_an_account_is_overdrawn(self):
        forest = Forest([("a", None), ("b", "a")])
        self.assertIs(shows_entitlements(forest, [("b", 4)], {"a": 9, "b": 3}, [4], [None]), False)
        self.assertIs(shows_entitlements(forest, [("b", 3), ("a", 4)], {"a": 1, "b": 3}, [3, 4], [None, None]), False)

    def test_other_lengths(self):
        for result in ([], [3], [3, 1], [3, 1, 2, 0], [3, 1, 2, 3, 1, 2]):
            self.assertIs(self.shows(result, ["b", "c", "a"]), False)
        for witness in ([], ["b"], ["b", "c"], ["b", "c", "a", None], ["b", "c", "a", "a"]):
            self.assertIs(self.shows([3, 1, 2], witness), False)
        self.assertIs(shows_entitlements(self.forest, [], BALANCES, [], []), True)
        self.assertIs(shows_entitlements(self.forest, [], BALANCES, [0], []), False)
        self.assertIs(shows_entitlements(self.forest, [], BALANCES, [], [None]), False)

    def test_tuples_are_no_lists(self):
        self.assertIs(self.shows((3, 1, 2), ["b", "c", "a"]), False)
        self.assertIs(self.shows([3, 1, 2], ("b", "c", "a")), False)
        self.assertIs(self.shows((3, 1, 2), ("b", "c", "a")), False)
        self.assertIs(shows_entitlements(self.forest, [], BALANCES, (), []), False)
        self.assertIs(shows_entitlements(self.forest, [], BALANCES, [], ()), False)

    def test_any_other_value(self):
        others = NO_NAMES + ["bca", {"b": 3}, {0: 3, 1: 1, 2: 2}, {3: 1, 1: 1, 2: 2}, {"b": 1, "c": 2, "a": 3}]
        others += [[3, 1, "2"], [3, 1, None], [3, 1, [2]], [3, 1, {}], [[3, 1, 2]], nested(18, 1, lambda x: [x, 1, 2])]
        for value in others:
            with self.subTest(value=value):
                self.assertIs(self.shows(value, ["b", "c", "a"]), False)
                self.assertIs(self.shows([3, 1, 2], value), False)
                self.assertIs(self.shows(value, value), False)

    def test_every_result_and_witness_of_small_cases(self):
        mixed = Mixed(13)
        shown = 0
        for rows in FORESTS[:9]:
            names = [name for name, _ in rows]
            for _ in range(12):
                claims = [(mixed.one_of(names), mixed.below(3)) for _ in range(2)]
                balances = {name: mixed.below(3) for name in names}
                found = entitlements(Forest(rows), claims, balances)
                for result in itertools.product(range(-1, 4), repeat=2):
                    for witness in itertools.product([None, "x"] + names, repeat=2):
                        answer = shows_entitlements(Forest(rows), claims, balances, list(result), list(witness))
                        self.assertIs(answer, model_shows(rows, claims, balances, result, witness))
                        if answer:
                            shown += 1
                            self.assertEqual(list(result), found)
        self.assertGreater(shown, 100)

    def test_the_model_of_these_tests(self):
        """A check of the tests themselves: what they hold to be tight is so by hand, too."""
        self.assertEqual([above(ABC, "b"), model_used(ABC, CLAIMS, [3, 1, 2], "a")], [["b", "a"], 6])
        self.assertEqual(
            [model_tight(ABC, CLAIMS, [3, 1, 2], BALANCES, rank) for rank in range(3)],
            [["b"], ["c"], ["a"]],
        )


if __name__ == "__main__":
    unittest.main()
