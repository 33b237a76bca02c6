"""hearpurse.sensitivity, [4.1]: more money, smaller claims, and the minimal sets of extra deposits."""

import copy
import itertools
import unittest

from hearpurse.entitlements import entitlements
from hearpurse.errors import InvalidBalances, InvalidClaims, InvalidRank, TooMany
from hearpurse.forests import Forest
from hearpurse.sensitivity import gains, minimal_deposits, release_effect
from tests.samples import CHAIN, NO_INTS, Mixed, cases, model_entitlements

ABC = [("a", None), ("b", "a"), ("c", "a")]
CLAIMS = [("b", 5), ("c", 4), ("a", 3)]
BALANCES = {"a": 2, "b": 3, "c": 1}

LARGEST = 10 ** 9
MOST = 10 ** 12


def together(balances, extra):
    """Return the balances with the extra deposits."""
    found = dict(balances)
    for account, amount in extra:
        found[account] = found.get(account, 0) + amount
    return found


def extra_for(mixed, rows, most):
    """Return up to so many small extra deposits."""
    names = [name for name, _ in rows]
    return [(mixed.one_of(names), 1 + mixed.below(3)) for _ in range(mixed.below(most + 1))]


def differences(after, before):
    return [new - old for new, old in zip(after, before)]


def model_minimal(rows, claims, balances, extra, rank, amount):
    """Try all sets, and keep those that are enough and hold no other one that is."""
    enough = []
    for many in range(len(extra) + 1):
        for chosen in itertools.combinations(range(len(extra)), many):
            money = together(balances, [extra[at] for at in chosen])
            if model_entitlements(rows, claims[:rank + 1], money)[rank] >= amount:
                enough.append(chosen)
    return [one for one in enough if not any([set(other) < set(one) for other in enough])]


class TestExamples(unittest.TestCase):
    def test_the_examples_of_the_document(self):
        forest = Forest(ABC)
        self.assertEqual(
            [gains(forest, CLAIMS, BALANCES, [("a", 1)]), release_effect(forest, CLAIMS, BALANCES, 0, 4)],
            [[0, 0, 1], [-2, 0, 1]],
        )
        self.assertEqual(
            minimal_deposits(forest, CLAIMS, {"a": 2, "b": 3, "c": 1}, [("a", 1), ("b", 1), ("b", 1)], 0, 5),
            [(1, 2)],
        )


class TestGains(unittest.TestCase):
    def test_no_extra_deposits(self):
        for rows, claims, balances in cases(100, 31):
            for extra in ([], ()):
                self.assertEqual(gains(Forest(rows), claims, balances, extra), [0] * len(claims))

    def test_several_on_one_account(self):
        forest = Forest(ABC)
        self.assertEqual(gains(forest, CLAIMS, BALANCES, [("b", 1)]), [1, 0, 0])
        self.assertEqual(gains(forest, CLAIMS, BALANCES, [("b", 1), ("b", 1)]), [2, 0, 0])
        self.assertEqual(gains(forest, CLAIMS, BALANCES, [("b", 1), ("b", 1), ("b", 1)]), [2, 0, 1])
        self.assertEqual(gains(forest, CLAIMS, BALANCES, [("b", 1), ("c", 3), ("b", 1), ("a", 1)]), [2, 3, 1])
        self.assertEqual(gains(forest, CLAIMS, BALANCES, [("a", 1)] * 9), [0, 0, 1])

    def test_an_account_without_a_balance(self):
        self.assertEqual(gains(Forest(ABC), CLAIMS, {}, [("b", 2), ("a", 1)]), [2, 0, 1])

    def test_a_list_of_its_own(self):
        forest = Forest(ABC)
        found = gains(forest, CLAIMS, BALANCES, [])
        self.assertIs(type(found), list)
        found.append(1)
        self.assertEqual(gains(forest, CLAIMS, BALANCES, []), [0, 0, 0])

    def test_against_the_entitlements_before_and_after(self):
        mixed = Mixed(32)
        for rows, claims, balances in cases(1500, 33):
            extra = extra_for(mixed, rows, 4)
            with self.subTest(rows=rows, claims=claims, balances=balances, extra=extra):
                forest = Forest(rows)
                found = gains(forest, claims, balances, extra)
                before = entitlements(forest, claims, balances)
                self.assertEqual(found, differences(entitlements(forest, claims, together(balances, extra)), before))
                self.assertEqual(before, model_entitlements(rows, claims, balances))
                self.assertTrue(all([gain >= 0 for gain in found]))
                self.assertLessEqual(sum(found), sum([amount for _, amount in extra]))

    def test_a_balance_that_becomes_greater_than_the_greatest(self):
        forest = Forest([("a", None), ("b", "a")])
        claims = [("a", LARGEST)] * 20
        self.assertEqual(gains(forest, claims, {"a": MOST}, [("a", 1)]), [0] * 20)
        self.assertEqual(gains(forest, claims, {"b": MOST}, [("b", LARGEST)] * 30), [0] * 20)
        self.assertEqual(gains(forest, claims, {}, [("b", LARGEST)] * 1001), [LARGEST] * 20)
        self.assertEqual(gains(forest, claims, {}, [("b", LARGEST)] * 7 + [("a", 5)]), [LARGEST] * 7 + [5] + [0] * 12)

    def test_what_was_handed_in_stays_as_it_is(self):
        extra = [("b", 1), ("b", 1), ("c", 3)]
        kept = copy.deepcopy([CLAIMS, BALANCES, extra])
        gains(Forest(ABC), CLAIMS, BALANCES, extra)
        minimal_deposits(Forest(ABC), CLAIMS, BALANCES, extra, 0, 5)
        release_effect(Forest(ABC), CLAIMS, BALANCES, 1, 4)
        self.assertEqual([CLAIMS, BALANCES, extra], kept)
        self.assertEqual(gains(Forest(ABC), tuple(CLAIMS), BALANCES, tuple(extra)), [2, 3, 0])


class TestReleaseEffect(unittest.TestCase):
    def refuse(self, claims, rank, less):
        with self.subTest(rank=rank, less=less):
            with self.assertRaises(InvalidRank):
                release_effect(Forest(ABC), claims, BALANCES, rank, less)

    def test_by_nothing(self):
        for rows, claims, balances in cases(100, 34):
            for rank in range(len(claims)):
                self.assertEqual(release_effect(Forest(rows), claims, balances, rank, 0), [0] * len(claims))

    def test_each_rank_by_hand(self):
        forest = Forest(ABC)
        self.assertEqual(
            [release_effect(forest, CLAIMS, BALANCES, 0, less) for less in range(6)],
            [[0, 0, 0], [0, 0, 0], [0, 0, 0], [-1, 0, 1], [-2, 0, 1], [-3, 0, 1]],
        )
        self.assertEqual(
            [release_effect(forest, CLAIMS, BALANCES, 1, less) for less in range(5)],
            [[0, 0, 0], [0, 0, 0], [0, 0, 0], [0, 0, 0], [0, -1, 1]],
        )
        self.assertEqual(
            [release_effect(forest, CLAIMS, BALANCES, 2, less) for less in range(4)],
            [[0, 0, 0], [0, 0, 0], [0, 0, -1], [0, 0, -2]],
        )

    def test_against_the_entitlements_before_and_after(self):
        for rows, claims, balances in cases(600, 35):
            forest = Forest(rows)
            before = entitlements(forest, claims, balances)
            for rank, (account, claim) in enumerate(claims):
                for less in range(claim + 1):
                    smaller = claims[:rank] + [(account, claim - less)] + claims[rank + 1:]
                    found = release_effect(forest, claims, balances, rank, less)
                    self.assertEqual(found, differences(entitlements(forest, smaller, balances), before))
                    self.assertLessEqual(found[rank], 0)
                    self.assertEqual(found[:rank], [0] * rank)
                    self.assertTrue(all([number >= 0 for number in found[rank + 1:]]))

    def test_by_all_of_the_claim_and_by_one_more(self):
        for rank, (_, claim) in enumerate(CLAIMS):
            release_effect(Forest(ABC), CLAIMS, BALANCES, rank, claim)
            for less in (claim + 1, claim + 2, 10 ** 30):
                self.refuse(CLAIMS, rank, less)
        self.assertEqual(release_effect(Forest(ABC), [("a", 0)], BALANCES, 0, 0), [0])
        self.refuse([("a", 0)], 0, 1)

    def test_great_claims(self):
        forest = Forest([("a", None)])
        claims = [("a", LARGEST)] * 3
        self.assertEqual(release_effect(forest, claims, {"a": LARGEST}, 0, LARGEST), [-LARGEST, LARGEST, 0])
        self.assertEqual(release_effect(forest, claims, {"a": LARGEST}, 0, LARGEST - 1), [1 - LARGEST, LARGEST - 1, 0])

    def test_numbers_that_are_no_rank(self):
        for rank in (-1, -2, -3, -4, 3, 4, 20, 10 ** 30, -10 ** 30):
            self.refuse(CLAIMS, rank, 0)
        for rank in (-1, 0, 1):
            self.refuse([], rank, 0)
        for rank in NO_INTS:
            self.refuse(CLAIMS, rank, 0)

    def test_numbers_that_no_claim_is_smaller_by(self):
        for less in NO_INTS + [-1, -2, -5, -10 ** 30]:
            for rank in range(3):
                self.refuse(CLAIMS, rank, less)
        self.refuse(CLAIMS, 9, -1)

    def test_true_and_false_are_no_numbers(self):
        for value in (True, False):
            self.refuse(CLAIMS, value, 0)
            self.refuse(CLAIMS, 0, value)
            self.refuse([("a", 1)], value, 0)
            self.refuse([("a", 1)], 0, value)

    def test_the_order_of_the_errors(self):
        with self.assertRaises(InvalidClaims):
            release_effect(Forest(ABC), [("x", 1)], {"x": 1}, 9, -1)
        with self.assertRaises(InvalidBalances):
            release_effect(Forest(ABC), CLAIMS, {"x": 1}, 9, -1)


class TestMinimalDeposits(unittest.TestCase):
    def ask(self, extra, rank, amount):
        return minimal_deposits(Forest(ABC), CLAIMS, BALANCES, extra, rank, amount)

    def test_enough_without_any(self):
        for extra in ([], (), [("b", 1)], [("b", 1)] * 12):
            for amount in range(4):
                self.assertEqual(self.ask(extra, 0, amount), [()])
            self.assertEqual(self.ask(extra, 1, 0), [()])
            self.assertEqual(self.ask(extra, 1, 1), [()])

    def test_all_of_them_are_not_enough(self):
        self.assertEqual(self.ask([], 0, 4), [])
        self.assertEqual(self.ask([("b", 1)], 0, 5), [])
        self.assertEqual(self.ask([("a", 9), ("c", 9)], 0, 4), [])
        # No more than the claim.
        self.assertEqual(self.ask([("b", LARGEST)] * 12, 0, 6), [])
        self.assertEqual(self.ask([("b", LARGEST)] * 2, 0, 10 ** 30), [])

    def test_the_order_of_the_sets(self):
        extra = [("b", 1), ("b", 2), ("a", 5), ("b", 1), ("b", 2)]
        self.assertEqual(self.ask(extra, 0, 4), [(0,), (1,), (3,), (4,)])
        self.assertEqual(self.ask(extra, 0, 5), [(1,), (4,), (0, 3)])
        extra = [("c", 1), ("c", 3), ("c", 1), ("c", 2), ("c", 1)]
        self.assertEqual(self.ask(extra, 1, 4), [(1,), (0, 3), (2, 3), (3, 4), (0, 2, 4)])

    def test_indices_of_two_digits(self):
        extra = [("b", 1)] * 9 + [("b", 2)] * 3
        self.assertEqual(
            self.ask(extra, 0, 5),
            [(9,), (10,), (11,)] + list(itertools.combinations(range(9), 2)),
        )

    def test_a_tuple_and_new_lists(self):
        extra = (("b", 1), ("b", 1))
        found = self.ask(extra, 0, 5)
        self.assertIs(type(found), list)
        self.assertIs(type(found[0]), tuple)
        self.assertIs(type(found[0][0]), int)
        found.clear()
        self.assertEqual(self.ask(list(extra), 0, 5), [(0, 1)])

    def test_against_a_search_over_all_sets(self):
        mixed = Mixed(36)
        several = 0
        for rows, claims, balances in cases(700, 37):
            extra = extra_for(mixed, rows, 5)
            for rank in range(len(claims)):
                amount = mixed.below(claims[rank][1] + 2)
                with self.subTest(rows=rows, claims=claims, balances=balances, extra=extra, rank=rank, amount=amount):
                    found = minimal_deposits(Forest(rows), claims, balances, extra, rank, amount)
                    self.assertEqual(found, model_minimal(rows, claims, balances, extra, rank, amount))
                    several += len(found) > 1
        self.assertGreater(several, 50)

    def test_a_set_is_enough_if_and_only_if_it_holds_a_minimal_one(self):
        mixed = Mixed(38)
        for rows, claims, balances in cases(150, 39):
            extra = extra_for(mixed, rows, 5)
            forest = Forest(rows)
            for rank in range(len(claims)):
                amount = mixed.below(claims[rank][1] + 1)
                found = minimal_deposits(forest, claims, balances, extra, rank, amount)
                for many in range(len(extra) + 1):
                    for chosen in itertools.combinations(range(len(extra)), many):
                        money = together(balances, [extra[at] for at in chosen])
                        enough = entitlements(forest, claims, money)[rank] >= amount
                        self.assertEqual(enough, any([set(one) <= set(chosen) for one in found]))

    def test_12_and_13_deposits(self):
        twelve = [("b", 1)] * 12
        self.assertEqual(self.ask(twelve, 0, 5), list(itertools.combinations(range(12), 2)))
        self.assertEqual(self.ask(tuple(twelve), 0, 4), [(at,) for at in range(12)])
        for many in (13, 14, 100):
            for rank, amount in ((0, 5), (0, 0), (9, -1)):
                with self.assertRaises(TooMany) as caught:
                    self.ask([("b", 1)] * many, rank, amount)
                self.assertEqual(caught.exception.limit, 12)
                with self.assertRaises(TooMany):
                    self.ask((("b", 1),) * many, rank, amount)

    def test_12_deposits_all_of_which_are_needed(self):
        forest = Forest(CHAIN[:8])
        last = forest.names[-1]
        claims = [(last, LARGEST)] * 19 + [(last, 12)]
        money = {last: MOST}
        self.assertEqual(minimal_deposits(forest, claims, money, [(last, 1)] * 12, 19, 12), [()])
        money = {last: 19 * LARGEST}
        self.assertEqual(minimal_deposits(forest, claims, money, [(last, 1)] * 12, 19, 12), [tuple(range(12))])
        half = minimal_deposits(forest, claims, money, [(last, 1)] * 12, 19, 6)
        self.assertEqual(half, list(itertools.combinations(range(12), 6)))

    def test_a_balance_that_becomes_greater_than_the_greatest(self):
        forest = Forest([("a", None)])
        self.assertEqual(minimal_deposits(forest, [("a", 5)], {"a": MOST}, [("a", LARGEST)] * 3, 0, 5), [()])
        self.assertEqual(minimal_deposits(forest, [("a", 5)], {"a": MOST}, [("a", LARGEST)] * 3, 0, 6), [])

    def test_numbers_that_are_no_rank(self):
        for rank in NO_INTS + [-1, -2, -3, 3, 4, 10 ** 30]:
            with self.subTest(rank=rank):
                with self.assertRaises(InvalidRank):
                    self.ask([("b", 1)], rank, 0)
        for rank in (-1, 0):
            with self.assertRaises(InvalidRank):
                minimal_deposits(Forest(ABC), [], BALANCES, [], rank, 0)

    def test_amounts(self):
        for amount in NO_INTS + [-1, -2, -10 ** 30]:
            with self.subTest(amount=amount):
                with self.assertRaises(InvalidRank):
                    self.ask([("b", 1)], 0, amount)
        for amount in (0, 1, 10 ** 9 + 1, 10 ** 40):
            self.ask([("b", 1)], 0, amount)

    def test_the_order_of_the_errors(self):
        thirteen = [("b", 1)] * 13
        for claims, balances, extra, error in (
            ([("x", 1)], {"x": 1}, [("x", 1)], InvalidClaims),
            (CLAIMS, {"x": 1}, thirteen, InvalidBalances),
            (CLAIMS, BALANCES, thirteen + [("x", 1)], InvalidBalances),
            (CLAIMS, BALANCES, thirteen, TooMany),
            (CLAIMS, BALANCES, thirteen[:12], InvalidRank),
        ):
            with self.assertRaises(error):
                minimal_deposits(Forest(ABC), claims, balances, extra, 9, -1)


if __name__ == "__main__":
    unittest.main()
