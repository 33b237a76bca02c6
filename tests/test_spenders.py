"""hearpurse.spenders, [6.2]: what a spender knows, answers, spends and gives up."""

import unittest

from hearpurse.errors import InvalidFact, TooMuch, UnknownRule
from hearpurse.forests import Forest
from hearpurse.rules import RULES
from hearpurse.spenders import Spender
from hearpurse.views import View
from tests.models import PlainSpender, clash
from tests.samples import ABC, CHAIN, NO_INTS, NO_STRINGS, Mixed
from tests.test_funds import draw_fact

LARGEST = 10 ** 9

ROW = ("spender", 1, "a", 4)
DEPOSIT = ("deposit", 1, "a", 10)

NO_SPENDERS = NO_STRINGS + [
    "", "a", "spender 1 a 4", list(ROW), (ROW,), ("spender",), ("spender", 1, "a"), ("spender", 1, "a", 4, 4),
    ("request", 1, "a", 4), ("deposit", 1, "a", 4), ("release", 1, 4), ("consent", 2, 1), ("withdrawn", 1),
    ("spender", 0, "a", 4), ("spender", 21, "a", 4), ("spender", True, "a", 4), ("spender", "1", "a", 4),
    ("spender", 1, "x", 4), ("spender", 1, ["a"], 4), ("spender", 1, "a", 0), ("spender", 1, "a", LARGEST + 1),
    ("spender", 1, "a", True), ("spender", [], {}, ()),
]

NO_RULES = NO_STRINGS + ["", "Correct", "correct ", "gaps", "CORRECT", ("correct",), ["correct"], RULES, list(RULES)]


def state(spender):
    return [spender.place, spender.spent, spender.view.facts, spender.log]


class TestNew(unittest.TestCase):
    def test_it_is_defined_in_its_file(self):
        self.assertEqual(Spender.__module__, "hearpurse.spenders")
        for name in ("learn", "release", "twin", "place", "spent", "view", "log"):
            self.assertIn(name, vars(Spender))

    def test_what_it_knows_at_first(self):
        for rule in RULES:
            for row in (ROW, ("spender", 20, "c", LARGEST)):
                spender = Spender(Forest(ABC), row, rule=rule)
                self.assertEqual(state(spender), [row[1], 0, [row], []])
        self.assertEqual(state(Spender(row=ROW, forest=Forest(ABC))), [1, 0, [ROW], []])

    def test_the_rule_by_keyword_only(self):
        with self.assertRaises(TypeError):
            Spender(Forest(ABC), ROW, "correct")

    def test_rows_that_are_no_spenders_rows(self):
        for value in NO_SPENDERS:
            for rule in ("correct", "gap", "none", None, []):
                with self.subTest(value=value, rule=rule):
                    with self.assertRaises(InvalidFact) as caught:
                        Spender(Forest(ABC), value, rule=rule)
                    self.assertEqual(caught.exception.index, 0)

    def test_rules_that_are_none(self):
        for value in NO_RULES:
            with self.subTest(value=value):
                with self.assertRaises(UnknownRule):
                    Spender(Forest(ABC), ROW, rule=value)

    def test_the_correct_rule_if_none_is_named(self):
        for rule, expected in ((None, []), ("correct", []), ("gap", [("spend", 4)])):
            more = {} if rule is None else {"rule": rule}
            self.assertEqual(Spender(Forest(ABC), ("spender", 2, "a", 4), **more).learn(DEPOSIT), expected)


class TestLearn(unittest.TestCase):
    def setUp(self):
        self.spender = Spender(Forest(ABC), ROW)

    def refuse(self, facts, index):
        before = state(self.spender)
        with self.subTest(facts=facts):
            with self.assertRaises(InvalidFact) as caught:
                self.spender.learn(*facts)
            self.assertEqual(caught.exception.index, index)
            self.assertEqual(state(self.spender), before)

    def test_the_example_of_the_document(self):
        spender = Spender(Forest([("a", None)]), ("spender", 1, "a", 4))
        spends = spender.learn(("deposit", 1, "a", 5))
        answers = spender.learn(("request", 2, "a", 2))
        self.assertEqual([spends, answers, spender.spent], [[("spend", 4)], [("refuse", 2, 1)], 4])

    def test_nothing_and_nothing_new(self):
        self.assertEqual(self.spender.learn(), [])
        self.assertEqual(self.spender.learn(ROW), [])
        self.assertEqual(self.spender.learn(DEPOSIT), [("spend", 4)])
        self.assertEqual(self.spender.learn(DEPOSIT, ROW, DEPOSIT), [])
        self.assertEqual(self.spender.log, [
            ("learned", ()), ("learned", ()), ("learned", (DEPOSIT,)), ("spend", 4), ("learned", ()),
        ])
        self.assertEqual([self.spender.spent, self.spender.view.facts], [4, [DEPOSIT, ROW]])

    def test_it_spends_what_is_new(self):
        found = [self.spender.learn(("deposit", mark, "a", 3)) for mark in (1, 2, 3)]
        self.assertEqual(found, [[("spend", 3)], [("spend", 1)], []])
        self.assertEqual(self.spender.spent, 4)

    def test_the_new_facts_in_the_order_in_which_they_came(self):
        other = ("deposit", 2, "a", 1)
        self.spender.learn(("withdrawn", 9), other, ROW, DEPOSIT, other)
        self.assertEqual(self.spender.log, [("learned", (("withdrawn", 9), other, DEPOSIT)), ("spend", 4)])

    def test_it_answers_before_it_spends(self):
        found = self.spender.learn(("request", 2, "a", 8), DEPOSIT)
        self.assertEqual(found, [("consent", 2, 1), ("spend", 2)])
        self.assertEqual(self.spender.log, [("learned", (("request", 2, "a", 8), DEPOSIT)), ("consent", 2, 1), ("spend", 2)])
        self.assertEqual(self.spender.view.facts, [("consent", 2, 1), DEPOSIT, ("request", 2, "a", 8), ROW])

    def test_several_answers_in_ascending_order(self):
        requests = [("request", 10, "a", 1), ("request", 9, "a", 1), ("request", 2, "a", 7), ("request", 3, "a", 6)]
        self.spender.learn(DEPOSIT)
        found = self.spender.learn(*requests)
        # 10 less 7 is less than 4; less 6 it is not, and then there is no room for 1 more.
        self.assertEqual(found, [("refuse", 2, 1), ("consent", 3, 1), ("refuse", 9, 1), ("refuse", 10, 1)])
        self.assertEqual(self.spender.log[2:], [("learned", tuple(requests))] + found)

    def test_it_knows_each_answer_before_the_next_one(self):
        self.spender.learn(("deposit", 1, "a", 6))
        found = self.spender.learn(("request", 2, "a", 1), ("request", 3, "a", 1), ("request", 4, "a", 1))
        self.assertEqual(found, [("consent", 2, 1), ("consent", 3, 1), ("refuse", 4, 1)])

    def test_a_refused_request_leaves_room_for_the_next_one(self):
        self.spender.learn(("deposit", 1, "a", 6))
        found = self.spender.learn(("request", 2, "a", 3), ("request", 3, "a", 2), ("request", 4, "a", 1))
        self.assertEqual(found, [("refuse", 2, 1), ("consent", 3, 1), ("refuse", 4, 1)])

    def test_it_answers_once(self):
        self.spender.learn(DEPOSIT, ("request", 2, "a", 5))
        self.assertEqual(self.spender.learn(("request", 2, "a", 5), ("request", 3, "a", 5)), [("refuse", 3, 1)])
        self.assertEqual(self.spender.learn(("request", 2, "a", 5), ("request", 3, "a", 5)), [])

    def test_a_barred_request_is_not_answered(self):
        refusal = ("refuse", 3, 2)
        self.assertEqual(self.spender.learn(DEPOSIT, ("request", 3, "a", 9), refusal), [("spend", 4)])
        self.assertEqual(self.spender.learn(("refuse", 4, 2)), [])
        self.assertEqual(self.spender.learn(("request", 4, "a", 1), ("request", 5, "a", 1)), [("consent", 5, 1)])

    def test_a_refusal_by_another_one_of_what_it_consented_to(self):
        request = ("request", 4, "a", 8)
        self.assertEqual(self.spender.learn(DEPOSIT, request), [("consent", 4, 1), ("spend", 2)])
        self.assertEqual(self.spender.learn(("consent", 4, 2)), [])
        self.assertEqual(self.spender.learn(("refuse", 4, 3)), [("spend", 2)])

    def test_a_request_ahead_is_not_answered(self):
        spender = Spender(Forest(ABC), ("spender", 2, "a", 4))
        self.assertEqual(spender.learn(DEPOSIT, ("request", 1, "a", 7)), [("spend", 3)])
        self.assertEqual(spender.log[1:], [("spend", 3)])

    def test_a_gap_ahead(self):
        spender = Spender(Forest(ABC), ("spender", 3, "a", 4))
        self.assertEqual(spender.learn(DEPOSIT, ("spender", 1, "a", 1)), [])
        # It has spent nothing, so it consents, whatever is asked.
        self.assertEqual(spender.learn(("request", 4, "a", 10)), [("consent", 4, 3)])
        self.assertEqual(spender.learn(("deposit", 2, "a", 4)), [])
        # 10 + 4 less the request for 10 and the senior's 1; the other senior's account is empty.
        self.assertEqual(spender.learn(("spender", 2, "b", 1)), [("spend", 3)])
        self.assertEqual([spender.spent, spender.view.entitlement(3)], [3, 3])

    def test_a_request_before_any_money(self):
        self.assertEqual(self.spender.learn(("request", 2, "a", LARGEST)), [("consent", 2, 1)])
        self.assertEqual(self.spender.learn(DEPOSIT), [])

    def test_a_request_of_an_account_inside_and_of_one_beside(self):
        spender = Spender(Forest(ABC), ("spender", 1, "b", 4))
        self.assertEqual(spender.learn(("deposit", 1, "b", 4), ("deposit", 2, "a", 9)), [("spend", 4)])
        self.assertEqual(spender.learn(("request", 2, "c", 9), ("request", 3, "a", 9), ("request", 4, "b", 1)),
                         [("consent", 2, 1), ("consent", 3, 1), ("refuse", 4, 1)])

    def test_errors_as_those_of_a_view(self):
        self.spender.learn(DEPOSIT)
        good = [("deposit", 2, "a", 1), ("withdrawn", 5)]
        for value in [None, True, [], "a", {}, ("withdrawn", True), ("spender", 1, "a", 5), ("request", 1, "a", 4),
                      ("deposit", 1, "b", 10), ("spender", 5, "a", 1)]:
            self.refuse(good + [value], 2)
            if value != ("spender", 5, "a", 1):
                self.refuse([value] + good, 0)
                self.refuse([good[0], value, good[1], None], 1)

    def test_its_own_answer_or_release_that_it_does_not_know(self):
        good = [("deposit", 2, "a", 1), ("withdrawn", 5)]
        for value in [("consent", 5, 1), ("refuse", 5, 1), ("release", 1, 1), ("release", 1, LARGEST)]:
            self.refuse([value], 0)
            self.refuse(good + [value], 2)
            self.refuse([good[0], value, value], 1)

    def test_its_own_and_what_is_no_fact_in_either_order(self):
        for own in [("consent", 5, 1), ("refuse", 5, 1), ("release", 1, 1)]:
            for value in (None, ("spender", 1, "a", 5), ("deposit", 0, "a", 1)):
                self.refuse([DEPOSIT, own, value], 1)
                self.refuse([DEPOSIT, value, own], 1)
                self.refuse([value, own], 0)
                self.refuse([own, value], 0)
            self.refuse([("deposit", 1, "a", 1), ("deposit", 1, "a", 2), own], 1)

    def test_its_own_answer_or_release_that_it_knows(self):
        self.spender.learn(("deposit", 1, "a", 2), ("request", 2, "a", 1), ("request", 3, "a", 2))
        release = self.spender.release(1)
        self.assertEqual(release, ("release", 1, 1))
        known = [("consent", 2, 1), ("consent", 3, 1), release]
        self.assertEqual(self.spender.view.facts, sorted(known + [
            ("deposit", 1, "a", 2), ("request", 2, "a", 1), ("request", 3, "a", 2), ROW,
        ]))
        self.assertEqual(self.spender.learn(*known), [])
        self.assertEqual(self.spender.log[-1], ("learned", ()))
        self.refuse(known + [("release", 1, 2)], 3)
        self.refuse(known + [("refuse", 2, 1)], 3)

    def test_answers_and_releases_of_others(self):
        facts = [("consent", 5, 2), ("refuse", 6, 2), ("release", 2, 1), ("release", 3, 5)]
        self.assertEqual(self.spender.learn(*facts), [])
        self.assertEqual(self.spender.log, [("learned", tuple(facts))])

    def test_lists_of_their_own(self):
        found = self.spender.learn(DEPOSIT)
        found.clear()
        log = self.spender.log
        self.assertIs(type(log), list)
        self.assertIs(type(log[0][1]), tuple)
        log.clear()
        view = self.spender.view
        self.assertIs(type(view), View)
        view.learn(("request", 2, "a", 9))
        self.assertEqual(state(self.spender), [1, 4, [DEPOSIT, ROW], [("learned", (DEPOSIT,)), ("spend", 4)]])


class TestRelease(unittest.TestCase):
    def refuse(self, spender, amount, available):
        before = state(spender)
        with self.subTest(amount=amount):
            with self.assertRaises(TooMuch) as caught:
                spender.release(amount)
            self.assertEqual(caught.exception.available, available)
            self.assertIs(type(caught.exception.available), int)
            self.assertEqual(state(spender), before)

    def test_the_totals(self):
        spender = Spender(Forest(ABC), ("spender", 1, "a", 9))
        self.assertEqual([spender.release(1), spender.release(amount=3), spender.release(1)],
                         [("release", 1, 1), ("release", 1, 4), ("release", 1, 5)])
        self.assertEqual(spender.log, [("release", 1, 1), ("release", 1, 4), ("release", 1, 5)])
        self.assertEqual(spender.view.facts, sorted(spender.log + [("spender", 1, "a", 9)]))
        self.assertEqual([spender.view.claim(1), spender.spent], [4, 0])

    def test_all_that_is_available_and_one_more(self):
        spender = Spender(Forest(ABC), ("spender", 2, "a", 9))
        self.refuse(spender, 10, 9)
        self.assertEqual(spender.release(9), ("release", 2, 9))
        self.refuse(spender, 1, 0)

    def test_what_it_has_spent_is_not_available(self):
        spender = Spender(Forest(ABC), ROW)
        spender.learn(("deposit", 1, "a", 3))
        for amount in (2, 3, 4, 5, LARGEST, LARGEST + 1, 10 ** 30):
            self.refuse(spender, amount, 1)
        self.assertEqual(spender.release(1), ("release", 1, 1))
        self.refuse(spender, 1, 0)
        self.assertEqual(spender.learn(("deposit", 2, "a", 9)), [])
        self.assertEqual(spender.spent, 3)

    def test_what_is_no_amount(self):
        spender = Spender(Forest(ABC), ROW)
        for amount in NO_INTS + [0, -1, -LARGEST]:
            self.refuse(spender, amount, 4)
        great = Spender(Forest(ABC), ("spender", 1, "a", LARGEST))
        self.refuse(great, LARGEST + 1, LARGEST)
        self.assertEqual(great.release(LARGEST), ("release", 1, LARGEST))

    def test_it_does_nothing_else(self):
        spender = Spender(Forest(ABC), ROW)
        spender.learn(("deposit", 1, "a", 3), ("request", 2, "a", 1))
        before = state(spender)
        self.assertEqual(spender.spent, 2)
        self.assertEqual(spender.release(1), ("release", 1, 1))
        self.assertEqual(state(spender), [1, 2, sorted(before[2] + [("release", 1, 1)]), before[3] + [("release", 1, 1)]])

    def test_a_released_claim_is_not_spent(self):
        spender = Spender(Forest(ABC), ROW)
        spender.release(3)
        self.assertEqual(spender.learn(DEPOSIT), [("spend", 1)])
        self.assertEqual(spender.learn(("deposit", 2, "a", 10)), [])


class TestTwin(unittest.TestCase):
    def test_either_goes_on_alone(self):
        for rule in RULES:
            spender = Spender(Forest(ABC), ("spender", 2, "a", 4), rule=rule)
            spender.learn(("spender", 1, "b", 2))
            spender.release(1)
            twin = spender.twin()
            self.assertIs(type(twin), Spender)
            self.assertEqual(state(twin), state(spender))
            twin.learn(DEPOSIT)
            self.assertEqual([spender.spent, twin.spent], [0, 3])
            self.assertEqual(len(spender.log) + 2, len(twin.log))
            spender.release(2)
            self.assertEqual([spender.view.claim(2), twin.view.claim(2)], [1, 3])
            with self.assertRaises(TooMuch):
                twin.release(1)
            self.assertEqual(spender.learn(DEPOSIT), [("spend", 1)])
            self.assertEqual([spender.spent, twin.spent], [1, 3])

    def test_a_twin_has_spent_as_much(self):
        spender = Spender(Forest(ABC), ROW)
        spender.learn(("deposit", 1, "a", 3))
        twin = spender.twin()
        self.assertEqual([twin.spent, twin.learn(("deposit", 2, "a", 3)), twin.spent, spender.spent],
                         [3, [("spend", 1)], 4, 3])

    def test_a_twin_has_the_rule(self):
        for rule, expected in (("correct", []), ("gap", [("spend", 4)])):
            twin = Spender(Forest(ABC), ("spender", 2, "a", 4), rule=rule).twin().twin()
            self.assertEqual(twin.learn(DEPOSIT), expected)


def first_invalid(facts, known, place):
    """Return the index of the first fact that the spender must not be told, or None."""
    so_far = set(known)
    for index, fact in enumerate(facts):
        own = (fact[0] in ("consent", "refuse") and fact[2] == place) or (fact[0] == "release" and fact[1] == place)
        if (own and fact not in known) or any(clash(fact, other) for other in so_far):
            return index
        so_far.add(fact)
    return None


class TestDrawn(unittest.TestCase):
    def go_on(self, mixed, rows, spender, plain, done):
        """Hand the same to both, and count what was done by its first word."""
        names = [name for name, _ in rows]
        if mixed.below(8) == 0:
            amount = 1 + mixed.below(3)
            if amount > plain.available():
                with self.assertRaises(TooMuch) as caught:
                    spender.release(amount)
                self.assertEqual(caught.exception.available, plain.available())
                return
            self.assertEqual(spender.release(amount), plain.release(amount))
            return
        facts = [draw_fact(mixed, names) for _ in range(mixed.below(4))]
        wrong = first_invalid(facts, plain.facts, plain.place)
        if wrong is not None:
            done["wrong"] = done.get("wrong", 0) + 1
            with self.assertRaises(InvalidFact) as caught:
                spender.learn(*facts)
            self.assertEqual(caught.exception.index, wrong)
            return
        found = spender.learn(*facts)
        self.assertEqual(found, plain.learn(*facts))
        for thing in found:
            done[thing[0]] = done.get(thing[0], 0) + 1

    def test_beside_what_the_document_says(self):
        mixed = Mixed(61)
        for rule in RULES:
            done = {}
            for _ in range(500):
                rows = mixed.one_of([ABC, [("a", None)], CHAIN[:3]])
                row = ("spender", 1 + mixed.below(4), mixed.one_of(rows)[0], 1 + mixed.below(9))
                spender, plain = Spender(Forest(rows), row, rule=rule), PlainSpender(rows, row, rule)
                ahead = [("spender", place, mixed.one_of(rows)[0], 1 + mixed.below(4)) for place in range(1, row[1])]
                told = ahead[mixed.below(2):]
                self.assertEqual(spender.learn(*told), plain.learn(*told))
                for _ in range(25):
                    self.go_on(mixed, rows, spender, plain, done)
                    self.assertEqual(state(spender), [plain.place, plain.spent, sorted(plain.facts), plain.log])
            for word in ("consent", "spend", "wrong") + (() if rule == "glad" else ("refuse",)):
                self.assertGreater(done[word], 20, (rule, word))


if __name__ == "__main__":
    unittest.main()
