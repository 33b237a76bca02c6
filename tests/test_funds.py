"""hearpurse.views, [5.4]: what a place counts on, and the entitlement of a spender by its facts."""

import unittest

from hearpurse.entitlements import entitlements
from hearpurse.forests import Forest
from hearpurse.views import View
from tests.models import clash, entitlement_of, funds_of
from tests.samples import ABC, CHAIN, Mixed

LARGEST = 10 ** 9


def view_of(rows, *facts):
    view = View(Forest(rows))
    view.learn(*facts)
    return view


class TestFunds(unittest.TestCase):
    def judge(self, view, place, **expected):
        self.assertEqual(view.funds(place), {"a": 0, "b": 0, "c": 0, **expected})

    def test_no_facts(self):
        for place in (1, 2, 20):
            self.judge(view_of(ABC), place)

    def test_the_accounts_in_the_order_of_the_names(self):
        rows = [("z", None), ("b", "z"), ("a", None)]
        view = view_of(rows, ("deposit", 1, "a", 1), ("deposit", 2, "b", 2), ("deposit", 3, "z", 3))
        found = view.funds(7)
        self.assertIs(type(found), dict)
        self.assertEqual(list(found.items()), [("z", 3), ("b", 2), ("a", 1)])
        found["a"] = 9
        self.assertEqual(view.funds(7), {"z": 3, "b": 2, "a": 1})

    def test_deposits_alone(self):
        view = view_of(ABC, ("deposit", 1, "a", 1), ("deposit", 2, "b", 2), ("deposit", 999, "b", 30))
        for place in (1, 5, 20):
            self.judge(view, place, a=1, b=32)

    def test_a_request_ahead_and_one_behind(self):
        view = view_of(ABC, ("deposit", 1, "b", 10), ("request", 3, "b", 4), ("deposit", 2, "a", 7))
        self.judge(view, 4, a=7, b=6)
        self.judge(view, 20, a=7, b=6)
        # Its own place is neither ahead nor behind.
        self.judge(view, 3, a=7, b=10)
        self.judge(view, 2, a=7, b=10)
        self.judge(view, 1, a=7, b=10)

    def test_a_consent_by_this_place_and_by_another_one(self):
        view = view_of(ABC, ("deposit", 1, "b", 10), ("request", 5, "b", 4), ("consent", 5, 2))
        self.judge(view, 1, b=10)
        self.judge(view, 2, b=6)
        self.judge(view, 3, b=10)
        self.judge(view, 6, b=6)
        view.learn(("consent", 6, 1), ("consent", 5, 3))
        self.judge(view, 1, b=10)
        self.judge(view, 3, b=6)

    def test_a_request_at_the_last_place_and_at_the_first(self):
        view = view_of(ABC, ("deposit", 1, "b", 10), ("request", 20, "b", 4), ("consent", 20, 1))
        self.judge(view, 1, b=6)
        self.judge(view, 2, b=10)
        view.learn(("refuse", 20, 19))
        self.judge(view, 1, b=10)
        view = view_of(ABC, ("deposit", 1, "b", 10), ("request", 1, "b", 3))
        self.assertEqual([view.funds(place)["b"] for place in (1, 2, 20)], [10, 7, 7])

    def test_barred_by_any_spender(self):
        for refusal in (("refuse", 5, 1), ("refuse", 5, 4)):
            view = view_of(ABC, ("deposit", 1, "b", 10), ("request", 5, "b", 4), ("consent", 5, 2), refusal)
            for place in (1, 2, 6, 20):
                self.judge(view, place, b=10)

    def test_another_request_barred(self):
        view = view_of(ABC, ("deposit", 1, "b", 10), ("request", 5, "b", 4), ("request", 6, "b", 1), ("refuse", 6, 1))
        self.judge(view, 7, b=6)

    def test_withdrawn_counts_no_more_and_no_less(self):
        view = view_of(ABC, ("deposit", 1, "b", 10), ("request", 5, "b", 4), ("withdrawn", 5))
        self.judge(view, 6, b=6)
        self.judge(view, 4, b=10)

    def test_an_unknown_request(self):
        view = view_of(ABC, ("deposit", 1, "b", 10), ("consent", 5, 2), ("withdrawn", 4))
        self.judge(view, 2, b=10)
        self.judge(view, 6, b=10)

    def test_several_requests_of_one_account(self):
        view = view_of(ABC, ("deposit", 1, "b", 10), ("request", 1, "b", 1), ("request", 2, "b", 2),
                       ("request", 4, "b", 4), ("consent", 4, 3))
        self.assertEqual([view.funds(place)["b"] for place in (1, 2, 3, 4, 5)], [10, 9, 3, 7, 3])

    def test_more_asked_than_there_is(self):
        view = view_of(ABC, ("deposit", 1, "b", 3), ("request", 1, "b", 2), ("request", 2, "b", 2), ("request", 3, "a", 1))
        self.assertEqual([view.funds(place)["b"] for place in (1, 2, 3)], [3, 1, 0])
        # The accounts do not help each other.
        view.learn(("deposit", 2, "c", 5))
        self.judge(view, 4, c=5)

    def test_great_numbers(self):
        facts = [("deposit", mark, "a", LARGEST) for mark in range(1, 1000)]
        view = view_of([("a", None)], ("request", 1, "a", LARGEST), *facts)
        self.assertEqual([view.funds(1), view.funds(2)], [{"a": 999 * LARGEST}, {"a": 998 * LARGEST}])


class TestEntitlement(unittest.TestCase):
    def test_no_spender(self):
        view = view_of(ABC, ("deposit", 1, "a", 9), ("request", 1, "a", 1))
        self.assertEqual([view.entitlement(place) for place in (1, 2, 20)], [None] * 3)

    def test_a_gap(self):
        view = view_of(ABC, ("deposit", 1, "a", 9), ("spender", 1, "a", 2), ("spender", 3, "a", 3))
        self.assertEqual([view.entitlement(place) for place in (1, 2, 3)], [2, None, None])
        # Rows behind it do not matter.
        view.learn(("request", 2, "a", 5))
        self.assertEqual([view.entitlement(place) for place in (1, 2, 3)], [2, None, 2])

    def test_nothing_there(self):
        view = view_of(ABC, ("spender", 1, "a", 2))
        self.assertEqual(view.entitlement(1), 0)
        self.assertIs(type(view.entitlement(1)), int)

    def test_seniors_count_and_juniors_do_not(self):
        view = view_of(ABC, ("deposit", 1, "a", 9), ("spender", 1, "a", 2), ("spender", 2, "b", 5), ("spender", 3, "a", 8),
                       ("spender", 4, "a", 9))
        self.assertEqual([view.entitlement(place) for place in (1, 2, 3, 4)], [2, 0, 7, 0])

    def test_releases_of_seniors_of_itself_and_of_juniors(self):
        view = view_of(ABC, ("deposit", 1, "a", 10), ("spender", 1, "a", 6), ("spender", 2, "a", 8), ("spender", 3, "a", 9))
        self.assertEqual([view.entitlement(place) for place in (1, 2, 3)], [6, 4, 0])
        view.learn(("release", 3, 9))
        self.assertEqual([view.entitlement(place) for place in (1, 2, 3)], [6, 4, 0])
        view.learn(("release", 1, 3))
        self.assertEqual([view.entitlement(place) for place in (1, 2, 3)], [3, 7, 0])
        view.learn(("release", 2, 5))
        self.assertEqual([view.entitlement(place) for place in (1, 2, 3)], [3, 3, 0])
        view.learn(("release", 2, 9), ("release", 1, LARGEST))
        self.assertEqual([view.entitlement(place) for place in (1, 2, 3)], [0, 0, 0])

    def test_by_its_own_funds(self):
        facts = [("deposit", 1, "a", 10), ("spender", 1, "a", 6), ("request", 2, "a", 3), ("spender", 3, "a", 9)]
        view = view_of(ABC, *facts)
        self.assertEqual([view.entitlement(1), view.entitlement(3)], [6, 1])
        view.learn(("request", 4, "a", 1))
        self.assertEqual([view.entitlement(1), view.entitlement(3)], [6, 1])
        view.learn(("consent", 4, 3))
        self.assertEqual([view.entitlement(1), view.entitlement(3)], [6, 0])
        view.learn(("refuse", 2, 1))
        self.assertEqual([view.entitlement(1), view.entitlement(3)], [6, 3])

    def test_accounts_inside_others(self):
        view = view_of(ABC, ("deposit", 1, "a", 2), ("deposit", 2, "b", 3), ("deposit", 3, "c", 1),
                       ("spender", 1, "b", 5), ("spender", 2, "c", 4), ("spender", 3, "a", 3))
        self.assertEqual([view.entitlement(place) for place in (1, 2, 3)], [3, 1, 2])

    def test_20_spenders(self):
        rows = CHAIN[:8]
        names = [name for name, _ in rows]
        facts = [("spender", place, names[place % 8], LARGEST) for place in range(1, 21)]
        facts += [("deposit", mark, names[mark % 8], 7 * LARGEST // 10) for mark in range(1, 61)]
        view = view_of(rows, *facts)
        claims = [(fact[2], fact[3]) for fact in facts[:20]]
        found = [view.entitlement(place) for place in range(1, 21)]
        self.assertEqual(found, entitlements(Forest(rows), claims, view.funds(1)))
        self.assertEqual(sum(found), 20 * LARGEST)


def draw_fact(mixed, names):
    """Return a fact of any kind, with places and numbers that often meet."""
    place = 1 + mixed.below(5)
    request = 2 + mixed.below(5)
    return mixed.one_of([
        ("spender", place, mixed.one_of(names), 1 + mixed.below(6)),
        ("spender", place, mixed.one_of(names), 1 + mixed.below(6)),
        ("request", request, mixed.one_of(names), 1 + mixed.below(4)),
        ("deposit", 1 + mixed.below(9), mixed.one_of(names), 1 + mixed.below(6)),
        ("deposit", 1 + mixed.below(9), mixed.one_of(names), 1 + mixed.below(6)),
        ("release", place, 1 + mixed.below(4)),
        (mixed.one_of(["consent", "consent", "refuse"]), request, 1 + mixed.below(request - 1)),
        ("withdrawn", request),
    ])


class TestDrawn(unittest.TestCase):
    def test_beside_a_plain_search_and_in_any_order(self):
        mixed = Mixed(54)
        values = {}
        for _ in range(400):
            rows = mixed.one_of([ABC, [("a", None)], CHAIN[:3], [("a", None), ("b", None)]])
            names = [name for name, _ in rows]
            facts = []
            for _ in range(mixed.below(30)):
                fact = draw_fact(mixed, names)
                if not any(clash(fact, other) for other in facts):
                    facts.append(fact)
            view = view_of(rows, *facts)
            known = set(facts)
            other = View(Forest(rows))
            left = facts + facts[:3]
            while left:
                other.learn(left.pop(mixed.below(len(left))))
            self.assertEqual(other, view)
            for place in range(1, 8):
                with self.subTest(rows=rows, facts=facts, place=place):
                    self.assertEqual(view.funds(place), funds_of(rows, known, place))
                    self.assertEqual(view.entitlement(place), entitlement_of(rows, known, place))
                    self.assertEqual(other.funds(place), view.funds(place))
                    self.assertEqual(other.entitlement(place), view.entitlement(place))
                    values[view.entitlement(place)] = True
        self.assertEqual(sorted(values, key=str), [0, 1, 2, 3, 4, 5, 6, None])


if __name__ == "__main__":
    unittest.main()
