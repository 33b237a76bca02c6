"""hearpurse.rules, [6.1]: the rules, and what each faulty one does otherwise than the correct one."""

import unittest

from hearpurse import rules
from hearpurse.forests import Forest
from hearpurse.rules import CORRECT, RULES
from hearpurse.spenders import Spender
from hearpurse.views import View
from tests.samples import ABC

FAULTY = ("gap", "glad", "free", "late", "poor", "deaf")

DEPOSIT = ("deposit", 1, "a", 10)


def told(rule, row, *calls):
    """Return what a spender with this rule does at each call of learn."""
    spender = Spender(Forest(ABC), row, rule=rule)
    return [spender.learn(*facts) for facts in calls]


class TestNames(unittest.TestCase):
    def test_the_rules_in_their_order(self):
        self.assertEqual(CORRECT, "correct")
        self.assertEqual(RULES, ("correct", "gap", "glad", "free", "late", "poor", "deaf"))
        self.assertIs(type(RULES), tuple)
        self.assertEqual([rules.CORRECT, rules.RULES], [CORRECT, (CORRECT,) + FAULTY])


class TestFaultyRules(unittest.TestCase):
    def judge(self, row, calls, expected, **otherwise):
        """Check what the correct rule does, what the given rules do otherwise, and that all others do the same."""
        for rule in RULES:
            with self.subTest(rule=rule):
                self.assertEqual(told(rule, row, *calls), otherwise.get(rule, expected))

    def test_alone(self):
        self.judge(("spender", 1, "a", 4), [[DEPOSIT], [("deposit", 2, "b", 1)]], [[("spend", 4)], []])

    def test_an_unknown_row_ahead(self):
        self.judge(("spender", 2, "a", 4), [[DEPOSIT]], [[]], gap=[[("spend", 4)]])

    def test_an_unknown_row_between(self):
        calls = [[("spender", 1, "a", 7), DEPOSIT]]
        self.judge(("spender", 3, "a", 4), calls, [[]], gap=[[("spend", 3)]])

    def test_an_unknown_row_and_an_answer(self):
        # A gap counts as nothing, so that a spender that has spent nothing consents; "gap" has spent 4.
        calls = [[DEPOSIT], [("request", 3, "a", 7)]]
        self.judge(("spender", 2, "a", 4), calls, [[], [("consent", 3, 2)]],
                   gap=[[("spend", 4)], [("refuse", 3, 2)]])

    def test_no_gap_at_the_second_place(self):
        # Half of the senior's claim of 6 leaves 4 more.
        self.judge(("spender", 2, "a", 8), [[("spender", 1, "a", 6), DEPOSIT]], [[("spend", 4)]], poor=[[("spend", 7)]])

    def test_an_odd_claim_is_halved_downwards(self):
        self.judge(("spender", 2, "a", 20), [[("spender", 1, "a", 7), DEPOSIT]], [[("spend", 3)]], poor=[[("spend", 7)]])
        self.judge(("spender", 2, "a", 20), [[("spender", 1, "a", 1), DEPOSIT]], [[("spend", 9)]], poor=[[("spend", 10)]])

    def test_the_claim_is_halved_behind_the_release(self):
        calls = [[("spender", 1, "a", 8), ("release", 1, 3), DEPOSIT]]
        self.judge(("spender", 2, "a", 20), calls, [[("spend", 5)]], poor=[[("spend", 8)]])

    def test_its_own_claim_is_not_halved(self):
        self.judge(("spender", 2, "a", 4), [[("spender", 1, "b", 6), DEPOSIT]], [[("spend", 4)]])

    def test_a_request_that_leaves_too_little(self):
        calls = [[DEPOSIT], [("request", 2, "a", 7)]]
        self.judge(("spender", 1, "a", 4), calls, [[("spend", 4)], [("refuse", 2, 1)]],
                   glad=[[("spend", 4)], [("consent", 2, 1)]])

    def test_a_request_that_leaves_enough(self):
        self.judge(("spender", 1, "a", 4), [[DEPOSIT], [("request", 2, "a", 6)]], [[("spend", 4)], [("consent", 2, 1)]])

    def test_a_request_before_it_has_spent(self):
        calls = [[DEPOSIT, ("request", 2, "a", 7)], [("deposit", 2, "a", 5)]]
        self.judge(("spender", 1, "a", 4), calls, [[("consent", 2, 1), ("spend", 3)], [("spend", 1)]],
                   free=[[("consent", 2, 1), ("spend", 4)], []])

    def test_free_answers_as_the_correct_one(self):
        calls = [[DEPOSIT, ("request", 2, "a", 4)], [("request", 3, "a", 6)]]
        self.judge(("spender", 1, "a", 5), calls, [[("consent", 2, 1), ("spend", 5)], [("refuse", 3, 1)]],
                   glad=[[("consent", 2, 1), ("spend", 5)], [("consent", 3, 1)]])
        # With the request before it counts on 6, of which the next one takes 2: less than the 5 that it has spent.
        calls = [[DEPOSIT, ("request", 2, "a", 4)], [("request", 3, "a", 2)]]
        self.judge(("spender", 1, "a", 5), calls, [[("consent", 2, 1), ("spend", 5)], [("refuse", 3, 1)]],
                   glad=[[("consent", 2, 1), ("spend", 5)], [("consent", 3, 1)]])

    def test_free_allows_for_a_request_ahead(self):
        self.judge(("spender", 2, "a", 20), [[DEPOSIT, ("request", 1, "a", 4)]], [[("spend", 6)]], late=[[("spend", 10)]])

    def test_a_request_ahead_that_leaves_enough(self):
        self.judge(("spender", 2, "a", 6), [[DEPOSIT, ("request", 1, "a", 4)]], [[("spend", 6)]])

    def test_late_counts_no_request_ahead_when_it_answers(self):
        calls = [[DEPOSIT, ("request", 1, "a", 4)], [("request", 3, "a", 4)]]
        self.judge(("spender", 2, "a", 6), calls, [[("spend", 6)], [("refuse", 3, 2)]],
                   late=[[("spend", 6)], [("consent", 3, 2)]],
                   glad=[[("spend", 6)], [("consent", 3, 2)]])

    def test_late_allows_for_a_request_behind(self):
        calls = [[DEPOSIT, ("request", 1, "b", 4), ("request", 3, "a", 7)]]
        self.judge(("spender", 2, "a", 5), calls, [[("consent", 3, 2), ("spend", 3)]],
                   free=[[("consent", 3, 2), ("spend", 5)]])

    def test_a_refusal_of_a_senior(self):
        calls = [[DEPOSIT, ("spender", 1, "a", 8), ("refuse", 3, 1)]]
        self.judge(("spender", 2, "a", 9), calls, [[("spend", 2)]], poor=[[("spend", 6)]], deaf=[[("spend", 9)]])

    def test_a_refusal_of_another_senior_and_of_a_junior(self):
        seniors = [("spender", 1, "a", 4), ("spender", 2, "b", 6)]
        calls = [[DEPOSIT, ("deposit", 2, "b", 6)] + seniors + [("refuse", 6, 2)]]
        self.judge(("spender", 3, "a", 20), calls, [[("spend", 6)]], poor=[[("spend", 11)]], deaf=[[("spend", 12)]])
        calls = [[DEPOSIT, ("deposit", 2, "b", 6)] + seniors + [("refuse", 6, 5)]]
        self.judge(("spender", 3, "a", 20), calls, [[("spend", 6)]], poor=[[("spend", 11)]])

    def test_a_refusal_of_the_last_request_and_of_the_next_one(self):
        for request in (20, 2):
            calls = [[DEPOSIT, ("spender", 1, "a", 8), ("request", 2, "b", 1), ("refuse", request, 1)]]
            self.judge(("spender", 3, "a", 9), calls, [[("spend", 2)]], poor=[[("spend", 6)]], deaf=[[("spend", 9)]])

    def test_its_own_refusal_does_not_make_its_claim_nothing(self):
        calls = [[DEPOSIT], [("request", 2, "a", 7)], [("deposit", 2, "a", 1)]]
        self.judge(("spender", 1, "a", 4), calls, [[("spend", 4)], [("refuse", 2, 1)], []],
                   glad=[[("spend", 4)], [("consent", 2, 1)], []])
        calls = [[("deposit", 1, "a", 3)], [("request", 2, "a", 1)], [("deposit", 2, "a", 1)]]
        self.judge(("spender", 1, "a", 4), calls, [[("spend", 3)], [("refuse", 2, 1)], [("spend", 1)]],
                   glad=[[("spend", 3)], [("consent", 2, 1)], []],
                   free=[[("spend", 3)], [("refuse", 2, 1)], [("spend", 1)]])

    def test_deaf_and_poor_answer_likewise(self):
        calls = [[DEPOSIT, ("spender", 1, "a", 4)], [("refuse", 3, 1), ("request", 4, "a", 4)]]
        self.judge(("spender", 2, "a", 6), calls, [[("spend", 6)], [("refuse", 4, 2)]],
                   deaf=[[("spend", 6)], [("consent", 4, 2)]],
                   glad=[[("spend", 6)], [("consent", 4, 2)]])
        calls = [[DEPOSIT, ("spender", 1, "a", 4)], [("request", 3, "a", 2)]]
        self.judge(("spender", 2, "a", 6), calls, [[("spend", 6)], [("refuse", 3, 2)]],
                   poor=[[("spend", 6)], [("consent", 3, 2)]],
                   glad=[[("spend", 6)], [("consent", 3, 2)]])

    def test_the_entitlement_of_the_view_is_the_same(self):
        facts = [DEPOSIT, ("spender", 1, "a", 6), ("request", 2, "a", 1), ("refuse", 9, 1), ("request", 5, "a", 1)]
        found = []
        for rule in RULES:
            spender = Spender(Forest(ABC), ("spender", 3, "a", 9), rule=rule)
            spender.learn(*facts)
            view = View(Forest(ABC))
            view.learn(("spender", 3, "a", 9), *facts)
            self.assertIn(("consent", 5, 3), spender.view.facts)
            view.learn(("consent", 5, 3))
            self.assertEqual(spender.view, view)
            found.append(spender.view.entitlement(3))
        self.assertEqual(found, [2] * 7)


if __name__ == "__main__":
    unittest.main()
