"""The guarantees of the document, over worlds that look drawn by lot."""

import unittest

from hearpurse.audit import audit, books_of
from hearpurse.entitlements import certificate, overdrawn, shows_entitlements, totals
from hearpurse.errors import PurseError
from hearpurse.explore import example, explore
from hearpurse.facts import fact_text, is_fact, parse_fact
from hearpurse.forests import Forest
from hearpurse.funding import fund, is_plan
from hearpurse.missing import missing
from hearpurse.rules import RULES
from hearpurse.spenders import Spender
from hearpurse.worlds import World
from tests.drawn import WITHOUT_REQUESTS, draw_action, draw_world, view_of
from tests.samples import ABC, Mixed
from tests.test_world_calls import pairs
from tests.test_world_errors import state_of

# Worlds in which the claims are seldom met, so that a wrong spending shows.
POOR = ["join"] * 4 + ["deposit"] * 2 + ["ask"] * 2 + ["send"] * 8 + ["tell"] * 6 + ["arrive"] * 14 + ["withdraw"] * 3

# Worlds in which many messages are under way.
SMALL = ["join"] * 2 + ["deposit"] * 4 + ["ask"] * 2 + ["send"] * 8 + ["tell"] * 2 + ["withdraw"]


def is_own(fact, place):
    return fact[-1] == place and fact[0] in ("consent", "refuse") or fact[:2] == ("release", place)


class WorldCase(unittest.TestCase):
    def check_money(self, world):
        """Check that no account is overdrawn, and that no spender has spent more than its ideal."""
        forest, claims, spent, balances = world.forest, world.claims, world.spent, world.balances
        self.assertIsNone(overdrawn(forest, claims, spent, balances))
        for number, most in zip(spent, world.ideal):
            self.assertLessEqual(number, most)
        word, plan = fund(forest, claims, spent, balances)
        self.assertEqual(word, "paid")
        self.assertTrue(is_plan(forest, claims, spent, balances, plan))
        self.assertTrue(all(total >= 0 for total in totals(forest, balances).values()))


class TestNoAccountIsOverdrawn(WorldCase):
    def test_behind_each_action(self):
        mixed = Mixed(81)
        spent = withdrawn = 0
        for _ in range(60):
            world = draw_world(mixed, 0)
            for _ in range(80):
                action = draw_action(mixed, world, POOR)
                try:
                    world.do(action)
                except PurseError:
                    continue
                self.check_money(world)
                if mixed.below(12) == 0:
                    world.settle()
                    self.check_money(world)
            spent += sum(world.spent)
            withdrawn += len([fact for _, fact in world.made if fact[0] == "withdrawn"])
        self.assertGreater(spent, 300)
        self.assertGreater(withdrawn, 10)

    def test_certificates(self):
        mixed = Mixed(82)
        for _ in range(60):
            world = draw_world(mixed, 40)
            forest, claims, balances = world.forest, world.claims, world.balances
            witness = certificate(forest, claims, balances)
            self.assertTrue(shows_entitlements(forest, claims, balances, world.ideal, witness))


class TestKnowingAll(WorldCase):
    def test_spent_is_ideal_when_each_request_is_withdrawn_or_barred(self):
        mixed = Mixed(83)
        withdrawn = barred = 0
        for _ in range(80):
            world = draw_world(mixed, 50)
            world.settle()
            self.check_money(world)
            for _, fact in world.made:
                if fact[0] == "request" and not world.keeper.is_barred(fact[1]):
                    if ("withdrawn", fact[1]) not in world.keeper.facts:
                        # All spenders ahead of it have answered.
                        world.do(("withdraw", fact[1]))
                        self.check_money(world)
            world.settle()
            self.assertEqual(world.spent, world.ideal)
            self.check_money(world)
            withdrawn += len([fact for _, fact in world.made if fact[0] == "withdrawn"])
            barred += len([fact for _, fact in world.made if fact[0] == "refuse"])
        self.assertGreater(withdrawn, 50)
        self.assertGreater(barred, 10)

    def test_a_spender_that_knows_all_has_spent_its_ideal(self):
        mixed = Mixed(84)
        for _ in range(60):
            world = draw_world(mixed, 40, words=WITHOUT_REQUESTS)
            every = [fact for _, fact in world.made]
            for place, ideal in zip(world.nodes[1:], world.ideal):
                spender = world.spender(place)
                spender.learn(*every)
                self.assertEqual([spender.spent, spender.view.entitlement(place)], [ideal, ideal])


class TestFactsDecide(WorldCase):
    def test_juniors_do_not_matter(self):
        mixed = Mixed(85)
        for _ in range(60):
            world = draw_world(mixed, 50, words=WITHOUT_REQUESTS)
            for place in world.nodes[1:]:
                row = world.keeper.row(place)
                facts = [fact for _, fact in world.made if not is_own(fact, place)]
                seniors = [fact for fact in facts if fact[0] == "deposit" or fact[1] <= place]
                told = []
                for choice in (facts, seniors):
                    spender = Spender(world.forest, row)
                    spender.learn(*choice)
                    told.append(spender.spent)
                self.assertEqual(told[0], told[1])

    def test_order_and_repetition_of_messages_do_not_matter(self):
        mixed = Mixed(86)
        for _ in range(40):
            world = draw_world(mixed, 60, words=WITHOUT_REQUESTS)
            for place in world.nodes[1:]:
                facts = view_of(world, place).facts
                total = max([fact[2] for fact in facts if fact[:2] == ("release", place)], default=0)
                others = [fact for fact in facts if not is_own(fact, place)]
                spender = Spender(world.forest, world.keeper.row(place))
                if total > 0:
                    spender.release(total)
                left = others + others
                while left:
                    message = [left.pop(mixed.below(len(left))) for _ in range(min(len(left), 1 + mixed.below(3)))]
                    spender.learn(*message)
                self.assertEqual(spender.spent, world.spender(place).spent)

    def test_a_later_fact_makes_no_earlier_spending_wrong(self):
        mixed = Mixed(87)
        for _ in range(60):
            world = draw_world(mixed, 50, words=WITHOUT_REQUESTS)
            every = [fact for _, fact in world.made]
            for place in world.nodes[1:]:
                spender = world.spender(place)
                left = [fact for fact in every if not is_own(fact, place)]
                while left:
                    before = spender.spent
                    spender.learn(left.pop(mixed.below(len(left))))
                    self.assertGreaterEqual(spender.spent, before)
                    entitlement = spender.view.entitlement(place)
                    self.assertEqual(spender.spent, 0 if entitlement is None else entitlement)


class TestMissingFacts(WorldCase):
    def test_a_minimal_set_brings_a_spender_as_far_as_knowing_all(self):
        mixed = Mixed(811)
        sets = 0
        for _ in range(60):
            world = draw_world(mixed, 30, words=WITHOUT_REQUESTS, most_facts=12)
            for place, ideal in zip(world.nodes[1:], world.ideal):
                # Without requests knowing all is to have spent the ideal.
                for facts in missing(world, place) or []:
                    spender = world.spender(place)
                    self.assertLess(spender.spent, ideal)
                    spender.learn(*facts)
                    self.assertEqual(spender.spent, ideal)
                    sets += 1
        self.assertGreater(sets, 60)


class TestSmallWorlds(WorldCase):
    def full_links(self, world):
        return [(node, to) for node in world.nodes for to in world.nodes if node != to and world.link(node, to)]

    def test_no_reachable_state_has_an_overdrawn_account(self):
        mixed = Mixed(812)
        states = ends = 0
        for turn in range(40):
            world = draw_world(mixed, 18, words=SMALL, most_spenders=2, settles=30)
            actions = [draw_action(mixed, world, SMALL, 2) for _ in range(turn % 4)]
            while sum(len(world.link(node, to)) for node, to in self.full_links(world)) > 6:
                world.do(("lose", *mixed.one_of(self.full_links(world)), 0))
            found = explore(world, actions=actions, limit=20000)
            self.assertIsNone(found["overdrawn"])
            states += found["states"]
            ends += found["ends"] > 1
        self.assertGreater(states, 2000)
        self.assertGreater(ends, 0)

    def test_each_faulty_rule_overdraws_an_account(self):
        for rule in RULES[1:]:
            forest, actions = example(rule)
            world = World(forest, rule=rule)
            world.do_all(actions)
            self.assertEqual(overdrawn(forest, world.claims, world.spent, world.balances), forest.names[0])


class TestBooksAndTexts(WorldCase):
    def test_the_auditor_finds_no_flaw(self):
        mixed = Mixed(813)
        for _ in range(40):
            self.assertIsNone(audit(books_of(draw_world(mixed, 60))))

    def test_texts_are_read_back(self):
        mixed = Mixed(814)
        for _ in range(20):
            world = draw_world(mixed, 60)
            self.assertEqual(Forest.parse(world.forest.text), world.forest)
            for _, fact in world.made:
                self.assertEqual(parse_fact(fact_text(fact), world.forest), fact)


class TestStates(WorldCase):
    def test_an_error_changes_nothing_but_the_log(self):
        mixed = Mixed(88)
        errors = 0
        for _ in range(25):
            world = draw_world(mixed, 0)
            for call in range(40):
                before = state_of(world)
                try:
                    world.do(draw_action(mixed, world))
                except PurseError:
                    errors += 1
                    self.assertEqual(state_of(world), before)
                self.assertEqual(world.log, pairs(call + 1))
        self.assertGreater(errors, 50)

    def test_the_same_question_has_the_same_answer(self):
        world = draw_world(Mixed(89), 80)
        self.assertEqual(state_of(world), state_of(world))
        self.assertEqual(state_of(draw_world(Mixed(89), 80)), state_of(world))
        self.assertTrue(all(is_fact(fact, world.forest) for _, fact in world.made))

    def test_the_order_of_the_rows_of_the_forest(self):
        forest = Forest([("a", None), ("c", "a"), ("b", "a")])
        found = []
        for each in (Forest(ABC), forest):
            spender = Spender(each, ("spender", 1, "a", 9))
            spender.learn(("deposit", 1, "c", 2), ("deposit", 2, "b", 3))
            found.append([spender.spent, spender.log])
        self.assertEqual(found[0], found[1])


if __name__ == "__main__":
    unittest.main()
