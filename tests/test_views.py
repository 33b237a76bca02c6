"""hearpurse.views, [5.3]: learning facts, and what a view says of the roll."""

import copy
import itertools
import unittest

from hearpurse import views
from hearpurse.errors import InvalidFact, InvalidPlace
from hearpurse.forests import Forest
from hearpurse.views import View
from tests.models import claim_of, clash, gap_of, is_barred, row_of
from tests.samples import ABC, EVERY_FACT, NO_INTS, NO_STRINGS, Mixed, nested

LARGEST = 10 ** 9

DEPOSIT = ("deposit", 1, "a", 5)
FIRST = ("spender", 1, "a", 3)
SECOND = ("spender", 2, "b", 4)
THIRD = ("request", 3, "c", 2)

NO_FACTS = NO_STRINGS + [
    "", "a", "withdrawn 1", ["withdrawn", 1], list(DEPOSIT), (DEPOSIT,), [DEPOSIT], ("withdrawn",), ("withdrawn", 0),
    ("withdrawn", 21), ("withdrawn", True), ("withdrawn", "1"), ("withdrawn", [1]), ("withdrawn", 1, 1),
    ("deposit", 1, "x", 5), ("deposit", 1, ["a"], 5), ("deposit", True, "a", 5), ("deposit", 1, "a", 0),
    ("deposit", 1, "a", LARGEST + 1), ("deposit", 1000, "a", 1), ("consent", 2, 2), ("refuse", 1, 2),
    ("learned", ()), ("spend", 1), ("join", "a", 1), ({}, 1), nested(18, ("withdrawn", 1), lambda inner: (inner,)),
]

NO_PLACES = NO_INTS + [0, -1, 21, 22, 10 ** 30, -10 ** 30]


class TestLearn(unittest.TestCase):
    def setUp(self):
        self.view = View(Forest(ABC))

    def refuse(self, view, facts, index):
        before = view.facts
        with self.subTest(facts=facts, index=index):
            with self.assertRaises(InvalidFact) as caught:
                view.learn(*facts)
            self.assertEqual(caught.exception.index, index)
            self.assertIs(type(caught.exception.index), int)
            self.assertEqual([view.facts, len(view)], [before, len(before)])

    def test_it_is_defined_in_its_file(self):
        self.assertEqual(View.__module__, "hearpurse.views")
        self.assertIs(views.View, View)
        for name in ("learn", "twin", "row", "gap", "is_barred", "claim", "funds", "entitlement", "facts"):
            self.assertIn(name, vars(View))

    def test_by_name(self):
        view = View(forest=Forest(ABC))
        view.learn(FIRST, DEPOSIT)
        answers = [view.row(place=1), view.gap(place=3), view.is_barred(request=2), view.claim(place=1)]
        self.assertEqual(answers, [FIRST, 2, False, 3])
        self.assertEqual([view.funds(place=1), view.entitlement(place=1)], [{"a": 5, "b": 0, "c": 0}, 3])

    def test_the_examples_of_the_document(self):
        view = View(Forest([("a", None)]))
        first = view.learn(("deposit", 1, "a", 5), ("spender", 2, "a", 4))
        waits = [view.gap(2), view.entitlement(2)]
        second = view.learn(("spender", 1, "a", 3), ("deposit", 1, "a", 5))
        self.assertEqual(first, [("deposit", 1, "a", 5), ("spender", 2, "a", 4)])
        self.assertEqual(
            [waits, second, view.entitlement(2), len(view)],
            [[1, None], [("spender", 1, "a", 3)], 2, 3],
        )
        view = View(Forest([("a", None)]))
        self.refuse(view, [("deposit", 1, "a", 5), ("deposit", 1, "a", 6)], 1)

    def test_none(self):
        self.assertEqual(self.view.learn(), [])
        self.assertEqual([self.view.facts, len(self.view)], [[], 0])

    def test_one_and_several_in_their_order(self):
        self.assertEqual(self.view.learn(SECOND), [SECOND])
        self.assertEqual(self.view.learn(THIRD, DEPOSIT, FIRST), [THIRD, DEPOSIT, FIRST])
        self.assertEqual(self.view.facts, [DEPOSIT, THIRD, FIRST, SECOND])
        self.assertEqual(len(self.view), 4)

    def test_known_ones_again(self):
        self.view.learn(FIRST, DEPOSIT)
        self.assertEqual(self.view.learn(FIRST), [])
        self.assertEqual(self.view.learn(DEPOSIT, FIRST), [])
        self.assertEqual(self.view.learn(DEPOSIT, SECOND, FIRST), [SECOND])
        self.assertEqual(self.view.facts, [DEPOSIT, FIRST, SECOND])

    def test_one_twice_in_a_call(self):
        self.assertEqual(self.view.learn(FIRST, DEPOSIT, FIRST, SECOND, DEPOSIT, FIRST), [FIRST, DEPOSIT, SECOND])
        self.assertEqual(len(self.view), 3)

    def test_lists_of_their_own(self):
        found = self.view.learn(FIRST)
        self.assertIs(type(found), list)
        found.append(SECOND)
        facts = self.view.facts
        self.assertIs(type(facts), list)
        facts.clear()
        self.assertEqual([self.view.facts, len(self.view)], [[FIRST], 1])

    def test_what_is_no_fact_at_each_index(self):
        good = [FIRST, DEPOSIT, SECOND]
        for value in NO_FACTS:
            for index in range(4):
                self.refuse(self.view, good[:index] + [value] + good[index:], index)
                self.refuse(self.view, good[:index] + [value, value], index)
        self.assertEqual(self.view.facts, [])

    def test_what_conflicts_with_a_known_fact_at_each_index(self):
        self.view.learn(FIRST, DEPOSIT)
        good = [SECOND, THIRD, ("withdrawn", 3)]
        for value in (("spender", 1, "a", 4), ("request", 1, "a", 3), ("deposit", 1, "b", 5), ("withdrawn", 1)):
            for index in range(4):
                self.refuse(self.view, good[:index] + [value] + good[index:], index)

    def test_what_conflicts_with_an_earlier_argument(self):
        self.refuse(self.view, [FIRST, ("spender", 1, "a", 4)], 1)
        self.refuse(self.view, [FIRST, DEPOSIT, SECOND, ("deposit", 1, "a", 6)], 3)
        self.refuse(self.view, [FIRST, ("withdrawn", 1), None], 1)
        self.refuse(self.view, [None, FIRST, ("withdrawn", 1)], 0)
        self.refuse(self.view, [FIRST, None, ("withdrawn", 1)], 1)

    def test_true_for_1_is_not_a_known_fact(self):
        self.view.learn(FIRST, DEPOSIT, ("withdrawn", 3))
        self.refuse(self.view, [("withdrawn", 3), ("spender", True, "a", 3)], 1)
        self.refuse(self.view, [("deposit", True, "a", 5)], 0)

    def test_every_two_facts_in_both_orders(self):
        forest = Forest([("a", None), ("b", None)])
        for one, other in itertools.product(EVERY_FACT, EVERY_FACT):
            view = View(forest)
            self.assertEqual(view.learn(one), [one])
            if clash(one, other):
                self.refuse(view, [other], 0)
                self.refuse(View(forest), [one, other], 1)
            else:
                self.assertEqual(view.learn(other), [] if one == other else [other])
                self.assertEqual(len(View(forest).learn(one, other)), len(view))

    def test_many_facts_against_each_two_of_them(self):
        mixed = Mixed(51)
        forest = Forest([("a", None), ("b", None)])
        for _ in range(300):
            view = View(forest)
            known = []
            for _ in range(25):
                fact = mixed.one_of(EVERY_FACT)
                if any(clash(fact, other) for other in known):
                    self.refuse(view, [fact], 0)
                    self.refuse(view, [known[0], fact], 1)
                else:
                    self.assertEqual(view.learn(fact), [] if fact in known else [fact])
                    known.append(fact)
            self.assertEqual(view.facts, sorted(set(known)))

    def test_answers_that_suppose_both_kinds_of_row_at_one_place(self):
        answers = [("consent", 5, 3), ("refuse", 3, 1)]
        for order in (answers, answers[::-1]):
            view = View(Forest(ABC))
            view.learn(*order)
            self.refuse(view, [("spender", 3, "a", 1)], 0)
            self.refuse(view, [("request", 3, "a", 1)], 0)
            self.assertEqual(view.learn(("spender", 1, "a", 1), ("request", 5, "a", 1)),
                             [("spender", 1, "a", 1), ("request", 5, "a", 1)])

    def test_the_order_of_the_facts(self):
        facts = [
            ("consent", 5, 1), ("consent", 5, 2), ("consent", 10, 1), ("deposit", 2, "a", 5), ("deposit", 10, "a", 5),
            ("deposit", 11, "a", 4), ("refuse", 6, 1), ("release", 1, 2), ("release", 1, 10), ("release", 2, 1),
            ("request", 5, "a", 1), ("request", 10, "a", 1), ("spender", 1, "a", 3), ("spender", 2, "b", 1),
            ("withdrawn", 5), ("withdrawn", 10),
        ]
        mixed = Mixed(52)
        for _ in range(30):
            view = View(Forest(ABC))
            left = list(facts)
            while left:
                view.learn(left.pop(mixed.below(len(left))))
            self.assertEqual(view.facts, facts)

    def test_facts_that_were_handed_in_as_a_list_stay(self):
        facts = [FIRST, SECOND]
        kept = copy.deepcopy(facts)
        self.view.learn(*facts)
        self.assertEqual(facts, kept)


class TestEqual(unittest.TestCase):
    def test_the_forest_and_the_facts(self):
        forest = Forest(ABC)
        one, other = View(forest), View(Forest([("a", None), ("c", "a"), ("b", "a")]))
        self.assertTrue(one == other)
        one.learn(FIRST, DEPOSIT)
        self.assertFalse(one == other)
        other.learn(DEPOSIT)
        self.assertFalse(one == other)
        other.learn(FIRST)
        self.assertTrue(one == other)
        self.assertIs(one == other, True)
        self.assertIs(one != other, False)
        other.learn(("release", 1, 1))
        self.assertIs(one == other, False)

    def test_as_many_other_facts(self):
        one, other = View(Forest(ABC)), View(Forest(ABC))
        one.learn(("withdrawn", 1))
        other.learn(("withdrawn", 2))
        self.assertFalse(one == other)

    def test_another_forest(self):
        for rows in ([("a", None)], [("a", None), ("b", None), ("c", "a")], [("a", None), ("b", "a"), ("d", "a")]):
            self.assertFalse(View(Forest(ABC)) == View(Forest(rows)))
            one, other = View(Forest(ABC)), View(Forest(rows))
            one.learn(DEPOSIT)
            other.learn(DEPOSIT)
            self.assertFalse(one == other)

    def test_any_other_value(self):
        view = View(Forest(ABC))
        view.learn(DEPOSIT)
        for value in NO_STRINGS + ["", "a", Forest(ABC), [DEPOSIT], (DEPOSIT,), {DEPOSIT: True}]:
            self.assertIs(view == value, False)
            self.assertIs(view != value, True)
        self.assertFalse(View(Forest(ABC)) == [])


class TestTwin(unittest.TestCase):
    def test_either_goes_on_alone(self):
        view = View(Forest(ABC))
        view.learn(FIRST)
        twin = view.twin()
        self.assertIs(type(twin), View)
        self.assertEqual(twin, view)
        self.assertEqual(twin.learn(SECOND, DEPOSIT), [SECOND, DEPOSIT])
        self.assertEqual(view.facts, [FIRST])
        self.assertEqual(view.learn(THIRD, ("deposit", 1, "b", 6)), [THIRD, ("deposit", 1, "b", 6)])
        self.assertEqual(twin.facts, [DEPOSIT, FIRST, SECOND])
        self.assertEqual([view.funds(2), twin.funds(2)], [{"a": 0, "b": 6, "c": 0}, {"a": 5, "b": 0, "c": 0}])
        self.assertEqual([view.row(2), twin.row(2), view.row(3), twin.row(3)], [None, SECOND, THIRD, None])
        twin.learn(("release", 2, 1))
        view.learn(SECOND)
        self.assertEqual([view.claim(2), twin.claim(2)], [4, 3])

    def test_a_twin_of_a_twin_and_of_an_empty_view(self):
        view = View(Forest(ABC))
        twins = [view.twin(), view.twin().twin()]
        twins[0].learn(FIRST)
        self.assertEqual([len(view), len(twins[0]), len(twins[1])], [0, 1, 0])

    def test_a_failed_call_on_a_twin(self):
        view = View(Forest(ABC))
        view.learn(FIRST)
        twin = view.twin()
        with self.assertRaises(InvalidFact):
            twin.learn(SECOND, ("deposit", 1, "a", 1), None)
        self.assertEqual([view.facts, twin.facts], [[FIRST], [FIRST]])
        # What the failed call brought forbids nothing later.
        self.assertEqual(twin.learn(("request", 2, "a", 1), ("deposit", 1, "b", 7)),
                         [("request", 2, "a", 1), ("deposit", 1, "b", 7)])


class TestRoll(unittest.TestCase):
    def test_rows(self):
        view = View(Forest(ABC))
        self.assertEqual([view.row(place) for place in range(1, 21)], [None] * 20)
        last = ("request", 20, "c", LARGEST)
        view.learn(last, FIRST, THIRD)
        self.assertEqual([view.row(1), view.row(2), view.row(3), view.row(19), view.row(20)],
                         [FIRST, None, THIRD, None, last])

    def test_other_facts_make_no_rows(self):
        view = View(Forest(ABC))
        view.learn(("deposit", 1, "a", 1), ("release", 2, 1), ("consent", 4, 3), ("withdrawn", 5))
        self.assertEqual([view.row(place) for place in range(1, 6)], [None] * 5)
        self.assertEqual([view.gap(place) for place in range(1, 6)], [None, 1, 1, 1, 1])

    def test_gaps(self):
        view = View(Forest(ABC))
        self.assertEqual([view.gap(place) for place in (1, 2, 3, 20)], [None, 1, 1, 1])
        view.learn(FIRST)
        self.assertEqual([view.gap(place) for place in (1, 2, 3, 20)], [None, None, 2, 2])
        view.learn(THIRD, ("spender", 5, "a", 1))
        self.assertEqual([view.gap(place) for place in (1, 2, 3, 4, 5, 6, 20)], [None, None, 2, 2, 2, 2, 2])
        view.learn(("request", 2, "a", 1))
        self.assertEqual([view.gap(place) for place in (2, 3, 4, 5, 6, 20)], [None, None, None, 4, 4, 4])
        view.learn(*[("spender", place, "a", 1) for place in [4] + list(range(6, 20))])
        self.assertEqual([view.gap(place) for place in range(1, 21)], [None] * 20)

    def test_barred(self):
        view = View(Forest(ABC))
        self.assertEqual([view.is_barred(place) for place in (1, 3, 20)], [False] * 3)
        view.learn(THIRD, ("consent", 3, 1))
        self.assertIs(view.is_barred(3), False)
        view.learn(("refuse", 3, 2))
        self.assertIs(view.is_barred(3), True)
        self.assertEqual([view.is_barred(place) for place in (1, 2, 4, 20)], [False] * 4)
        # The request itself need not be known.
        view.learn(("refuse", 20, 19), ("refuse", 5, 1))
        self.assertEqual([view.is_barred(5), view.is_barred(20), view.is_barred(19)], [True, True, False])

    def test_claims(self):
        view = View(Forest(ABC))
        view.learn(FIRST, SECOND, ("spender", 20, "a", LARGEST))
        self.assertEqual([view.claim(1), view.claim(2), view.claim(20)], [3, 4, LARGEST])
        view.learn(("release", 2, 1))
        self.assertEqual([view.claim(1), view.claim(2)], [3, 3])
        # Neither the last one nor their sum counts, but the greatest.
        view.learn(("release", 2, 3), ("release", 2, 2))
        self.assertEqual([view.claim(1), view.claim(2)], [3, 1])
        view.learn(("release", 2, 4))
        self.assertEqual(view.claim(2), 0)

    def test_a_release_greater_than_the_claim(self):
        view = View(Forest(ABC))
        view.learn(("release", 2, LARGEST), ("release", 1, 4), SECOND, FIRST)
        self.assertEqual([view.claim(1), view.claim(2)], [0, 0])

    def test_claims_where_no_spender_is_known(self):
        view = View(Forest(ABC))
        view.learn(FIRST, THIRD, ("release", 2, 1))
        for place in (2, 3, 4, 20):
            with self.assertRaises(InvalidPlace) as caught:
                view.claim(place)
            self.assertEqual(caught.exception.value, place)

    def test_what_is_no_place(self):
        view = View(Forest(ABC))
        view.learn(FIRST, SECOND, THIRD, DEPOSIT)
        for value in NO_PLACES:
            for ask in (view.row, view.gap, view.is_barred, view.claim, view.funds, view.entitlement):
                with self.subTest(value=value, ask=ask.__name__):
                    with self.assertRaises(InvalidPlace) as caught:
                        ask(value)
                    self.assertIs(caught.exception.value, value)

    def test_the_bounds_of_the_places(self):
        view = View(Forest(ABC))
        for place in (1, 20):
            self.assertIs(view.row(place), None)
            self.assertIs(view.is_barred(place), False)
            self.assertIs(view.entitlement(place), None)
            self.assertEqual(view.funds(place), {"a": 0, "b": 0, "c": 0})
            view.gap(place)

    def test_drawn_views_beside_a_plain_search(self):
        mixed = Mixed(53)
        for _ in range(200):
            view = View(Forest([("a", None), ("b", "a")]))
            facts = set()
            for _ in range(mixed.below(20)):
                fact = mixed.one_of(EVERY_FACT)
                if not any(clash(fact, other) for other in facts):
                    facts.add(fact)
                    view.learn(fact)
            for place in range(1, 5):
                self.assertEqual(view.row(place), row_of(facts, place))
                self.assertEqual(view.gap(place), gap_of(facts, place))
                self.assertIs(view.is_barred(place), is_barred(facts, place))
                if row_of(facts, place) is not None and row_of(facts, place)[0] == "spender":
                    self.assertEqual(view.claim(place), claim_of(facts, place))


if __name__ == "__main__":
    unittest.main()
