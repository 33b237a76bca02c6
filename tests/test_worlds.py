"""hearpurse.worlds, [7.1] and [7.2]: each action, its result and what it changes."""

import unittest

from hearpurse import worlds
from hearpurse.errors import UnknownRule
from hearpurse.forests import Forest
from hearpurse.rules import RULES
from hearpurse.spenders import Spender
from hearpurse.views import View
from hearpurse.worlds import World
from tests.drawn import view_of
from tests.samples import ABC
from tests.test_spenders import NO_RULES

LARGEST = 10 ** 9

DEPOSIT = ("deposit", 1, "a", 5)


def world_of(*actions, rows=ABC, rule="correct"):
    world = World(Forest(rows), rule=rule)
    for action in actions:
        world.do(action)
    return world


def facts_of(world):
    """Return the facts of each node."""
    return {node: view_of(world, node).facts for node in world.nodes}


def links_of(world):
    """Return all links that are not empty."""
    found = {(node, to): world.link(node, to) for node in world.nodes for to in world.nodes if node != to}
    return {pair: messages for pair, messages in found.items() if messages}


class TestNew(unittest.TestCase):
    def test_it_is_defined_in_its_file(self):
        self.assertEqual(World.__module__, "hearpurse.worlds")
        self.assertIs(worlds.World, World)
        for name in ("do", "do_all", "log", "actions", "made", "forest", "rule", "nodes", "spender", "keeper", "link",
                     "twin", "claims", "balances", "spent", "ideal", "settle"):
            self.assertIn(name, vars(World))

    def test_the_capacity(self):
        self.assertEqual([World.CAPACITY, World(Forest(ABC)).CAPACITY], [6, 6])

    def test_at_first(self):
        forest = Forest(ABC)
        for rule in RULES:
            world = World(forest, rule=rule)
            self.assertIs(world.forest, forest)
            self.assertEqual([world.rule, world.nodes, world.keeper], [rule, [0], View(forest)])
            self.assertEqual([world.log, world.actions, world.made], [[], [], []])
            self.assertEqual([world.claims, world.balances, world.spent, world.ideal],
                             [[], {"a": 0, "b": 0, "c": 0}, [], []])
        self.assertEqual(World(forest=forest).rule, "correct")

    def test_the_rule_by_keyword_only(self):
        with self.assertRaises(TypeError):
            World(Forest(ABC), "correct")

    def test_rules_that_are_none(self):
        for value in NO_RULES:
            with self.subTest(value=value):
                with self.assertRaises(UnknownRule):
                    World(Forest(ABC), rule=value)

    def test_the_example_of_the_document(self):
        world = World(Forest([("a", None)]))
        results = world.do_all([("join", "a", 3), ("join", "a", 4), ("deposit", 2, "a", 5)])
        before = [world.spent, world.ideal]
        sent = world.do(("tell", 0, 2, (("spender", 1, "a", 3),)))
        arrived = world.do(("arrive", 0, 2, 0))
        self.assertIsNone(sent)
        self.assertEqual(
            [results, before, arrived, world.settle(), world.spent],
            [[1, 2, 1], [[0, 0], [3, 2]], [("spend", 2)], 2, [3, 2]],
        )


class TestRows(unittest.TestCase):
    def test_join(self):
        world = World(Forest(ABC))
        self.assertEqual([world.do(("join", "b", 5)), world.do(("join", "a", LARGEST))], [1, 2])
        first, second = ("spender", 1, "b", 5), ("spender", 2, "a", LARGEST)
        self.assertEqual(facts_of(world), {0: [first, second], 1: [first], 2: [second]})
        self.assertEqual(world.made, [(0, first), (0, second)])
        self.assertEqual([world.nodes, links_of(world)], [[0, 1, 2], {}])
        self.assertEqual([world.claims, world.spent], [[("b", 5), ("a", LARGEST)], [0, 0]])
        self.assertEqual([world.spender(1).log, world.spender(2).log], [[], []])

    def test_ask(self):
        world = world_of(("join", "a", 3), ("deposit", 0, "b", 5))
        self.assertEqual([world.do(("ask", "b", 2)), world.do(("ask", "b", 3)), world.do(("join", "c", 1))], [2, 3, 4])
        rows = [("spender", 1, "a", 3), ("request", 2, "b", 2), ("request", 3, "b", 3), ("spender", 4, "c", 1)]
        self.assertEqual([world.keeper.row(place) for place in range(1, 6)], rows + [None])
        self.assertEqual([maker for maker, _ in world.made], [0] * 5)
        self.assertEqual([fact for _, fact in world.made if fact[0] != "deposit"], rows)
        self.assertEqual(facts_of(world)[1], [("spender", 1, "a", 3)])
        self.assertEqual(facts_of(world)[4], [("spender", 4, "c", 1)])
        self.assertEqual([world.nodes, world.claims, world.balances["b"]], [[0, 1, 4], [("a", 3), ("c", 1)], 5])

    def test_the_spenders_have_the_rule(self):
        for rule in RULES:
            world = world_of(("join", "a", 3), ("join", "a", 3), rule=rule)
            world.do(("deposit", 2, "a", 5))
            self.assertEqual(world.spent, [0, 3 if rule == "gap" else 0])


class TestMoney(unittest.TestCase):
    def test_a_deposit_at_the_keeper(self):
        world = world_of(("join", "a", 3))
        self.assertEqual([world.do(("deposit", 0, "a", 5)), world.do(("deposit", 0, "c", LARGEST))], [1, 2])
        facts = [("deposit", 1, "a", 5), ("deposit", 2, "c", LARGEST)]
        self.assertEqual(facts_of(world), {0: facts + [("spender", 1, "a", 3)], 1: [("spender", 1, "a", 3)]})
        self.assertEqual(world.made[1:], [(0, fact) for fact in facts])
        self.assertEqual([world.balances, world.spent, world.ideal], [{"a": 5, "b": 0, "c": LARGEST}, [0], [3]])

    def test_a_deposit_at_a_spender(self):
        world = world_of(("join", "a", 7), ("join", "a", 3))
        self.assertEqual([world.do(("deposit", 1, "a", 5)), world.do(("deposit", 2, "a", 9))], [1, 2])
        self.assertEqual(facts_of(world)[1], [("deposit", 1, "a", 5), ("spender", 1, "a", 7)])
        self.assertEqual(facts_of(world)[2], [("deposit", 2, "a", 9), ("spender", 2, "a", 3)])
        self.assertEqual(world.made[2:], [(1, ("deposit", 1, "a", 5)), (2, ("deposit", 2, "a", 9))])
        self.assertEqual(world.spent, [5, 0])
        self.assertEqual(world.spender(1).log, [("learned", (("deposit", 1, "a", 5),)), ("spend", 5)])
        self.assertEqual(world.spender(2).log, [("learned", (("deposit", 2, "a", 9),))])
        self.assertEqual(len(world.keeper), 2)

    def test_a_release(self):
        world = world_of(("join", "a", 7), ("deposit", 1, "a", 2))
        self.assertEqual([world.do(("release", 1, 1)), world.do(("release", 1, 3))], [1, 4])
        releases = [("release", 1, 1), ("release", 1, 4)]
        self.assertEqual(world.made[2:], [(1, release) for release in releases])
        self.assertEqual([world.claims, world.spent, world.keeper.facts], [[("a", 3)], [2], [("spender", 1, "a", 7)]])
        self.assertEqual(facts_of(world)[1], [("deposit", 1, "a", 2)] + releases + [("spender", 1, "a", 7)])
        self.assertEqual(world.spender(1).log[2:], releases)

    def test_a_claim_given_up_whole(self):
        world = world_of(("join", "a", 7), ("join", "b", 2), ("release", 1, 7))
        self.assertEqual([world.claims, world.ideal], [[("a", 0), ("b", 2)], [0, 0]])

    def test_a_withdrawal_without_spenders(self):
        world = world_of(("deposit", 0, "a", 5), ("ask", "a", 2), ("join", "a", 5))
        self.assertIsNone(world.do(("withdraw", 1)))
        self.assertEqual(world.made[-1], (0, ("withdrawn", 1)))
        self.assertIn(("withdrawn", 1), world.keeper.facts)
        self.assertEqual([world.balances, world.ideal], [{"a": 3, "b": 0, "c": 0}, [3]])
        self.assertEqual(facts_of(world)[2], [("spender", 2, "a", 5)])

    def test_a_withdrawal_with_all_consents(self):
        world = world_of(("join", "a", 3), ("join", "b", 2), ("deposit", 0, "a", 5), ("ask", "a", 2), ("join", "c", 1))
        # The consents are made in the first round, and known to all behind the second one.
        self.assertEqual(world.settle(), 3)
        self.assertEqual(world.made[5:], [(1, ("consent", 3, 1)), (2, ("consent", 3, 2))])
        self.assertIsNone(world.do(("withdraw", 3)))
        self.assertEqual(world.balances, {"a": 3, "b": 0, "c": 0})
        self.assertEqual([world.made[-1], world.spent], [(0, ("withdrawn", 3)), [3, 0, 0]])

    def test_balances_sum_up_all_deposits_and_withdrawals_of_an_account(self):
        world = world_of(("deposit", 0, "a", 5), ("deposit", 0, "b", 7), ("deposit", 0, "a", 4), ("ask", "a", 2),
                         ("ask", "a", 3), ("ask", "b", 1), ("withdraw", 1), ("withdraw", 3), ("withdraw", 2),
                         ("join", "a", 9), ("join", "b", 2))
        self.assertEqual([world.balances, world.ideal], [{"a": 4, "b": 6, "c": 0}, [9, 1]])

    def test_answers_are_made(self):
        world = world_of(("join", "a", 3), ("join", "a", 9), ("deposit", 0, "a", 5), ("ask", "a", 3), ("ask", "a", 2))
        world.do(("tell", 0, 1, (("deposit", 1, "a", 5),)))
        world.do(("arrive", 0, 1, 0))
        world.do(("send", 0, 1))
        self.assertEqual(world.do(("arrive", 0, 1, 0)), [("refuse", 3, 1), ("consent", 4, 1)])
        self.assertEqual(world.made[5:], [(1, ("refuse", 3, 1)), (1, ("consent", 4, 1))])
        self.assertEqual(world.spender(1).log[-2:], [("refuse", 3, 1), ("consent", 4, 1)])
        self.assertEqual(facts_of(world)[1], sorted(fact for _, fact in world.made))


class TestMessages(unittest.TestCase):
    def setUp(self):
        self.world = world_of(("join", "a", 3), ("join", "a", 4), ("deposit", 0, "a", 5))
        self.rows = [("spender", 1, "a", 3), ("spender", 2, "a", 4)]

    def test_tell(self):
        told = (self.rows[1], DEPOSIT, DEPOSIT)
        self.assertIsNone(self.world.do(("tell", 0, 1, told)))
        self.assertIsNone(self.world.do(("tell", 0, 1, ())))
        self.assertIsNone(self.world.do(("tell", 1, 2, (self.rows[0],))))
        self.assertEqual(links_of(self.world), {(0, 1): [told, ()], (1, 2): [(self.rows[0],)]})
        self.assertEqual(facts_of(self.world), {0: [DEPOSIT] + self.rows, 1: [self.rows[0]], 2: [self.rows[1]]})

    def test_send(self):
        self.assertIsNone(self.world.do(("send", 0, 2)))
        self.world.do(("deposit", 0, "b", 1))
        self.assertIsNone(self.world.do(("send", 0, 2)))
        self.assertIsNone(self.world.do(("send", 2, 0)))
        # The first message holds what the keeper knew when it was sent.
        self.assertEqual(links_of(self.world), {
            (0, 2): [(DEPOSIT, *self.rows), (DEPOSIT, ("deposit", 2, "b", 1), *self.rows)],
            (2, 0): [(self.rows[1],)],
        })

    def test_a_message_arrives_at_a_spender(self):
        self.world.do(("send", 0, 1))
        self.world.do(("send", 0, 2))
        self.assertEqual(self.world.do(("arrive", 0, 2, 0)), [("spend", 2)])
        self.assertEqual(self.world.do(("arrive", 0, 1, 0)), [("spend", 3)])
        self.assertEqual([self.world.spent, links_of(self.world)], [[3, 2], {}])
        self.assertEqual(self.world.spender(2).log, [("learned", (DEPOSIT, self.rows[0])), ("spend", 2)])
        self.assertEqual(facts_of(self.world)[1], [DEPOSIT] + self.rows)

    def test_a_message_arrives_at_the_keeper(self):
        self.world.do_all([("deposit", 1, "b", 1), ("deposit", 1, "c", 2)])
        new = [("deposit", 3, "c", 2), ("deposit", 2, "b", 1)]
        self.world.do(("tell", 1, 0, (new[0], self.rows[0], new[1], new[0])))
        self.assertEqual(self.world.do(("arrive", 1, 0, 0)), new)
        self.world.do(("send", 1, 0))
        self.assertEqual(self.world.do(("arrive", 1, 0, 0)), [])
        self.assertEqual(self.world.keeper.facts, [DEPOSIT] + new[::-1] + self.rows)

    def test_the_message_at_an_index(self):
        for mark in range(3):
            self.world.do(("deposit", 0, "b", 1 + mark))
            self.world.do(("tell", 0, 1, (("deposit", 2 + mark, "b", 1 + mark),)))
        messages = self.world.link(0, 1)
        self.assertEqual(self.world.do(("arrive", 0, 1, 1)), [("spend", 2)])
        self.assertEqual(self.world.link(0, 1), [messages[0], messages[2]])
        self.assertIsNone(self.world.do(("lose", 0, 1, 0)))
        self.assertEqual(self.world.link(0, 1), [messages[2]])
        self.assertEqual(facts_of(self.world)[1], [("deposit", 3, "b", 2), self.rows[0]])

    def test_lost_messages_change_no_view(self):
        self.world.do(("send", 0, 1))
        before = [facts_of(self.world), self.world.made, self.world.spender(1).log]
        self.assertIsNone(self.world.do(("lose", 0, 1, 0)))
        self.assertEqual([facts_of(self.world), self.world.made, self.world.spender(1).log], before)
        self.assertEqual(links_of(self.world), {})

    def test_copies_join_last(self):
        self.world.do(("tell", 0, 1, (DEPOSIT,)))
        self.world.do(("tell", 0, 1, ()))
        self.assertIsNone(self.world.do(("copy", 0, 1, 0)))
        self.assertEqual(self.world.link(0, 1), [(DEPOSIT,), (), (DEPOSIT,)])
        self.world.do(("copy", 0, 1, 1))
        self.assertEqual(self.world.link(0, 1), [(DEPOSIT,), (), (DEPOSIT,), ()])

    def test_a_copy_arrives_where_its_message_was(self):
        self.world.do(("send", 0, 1))
        self.world.do(("copy", 0, 1, 0))
        self.assertEqual(self.world.do(("arrive", 0, 1, 0)), [("spend", 3)])
        # It brings nothing new, and raises nothing.
        self.assertEqual(self.world.do(("arrive", 0, 1, 0)), [])
        self.assertEqual(self.world.spender(1).log[-1], ("learned", ()))
        self.assertEqual(self.world.spent, [3, 0])

    def test_its_own_answer_and_release_come_back(self):
        self.world.do_all([("release", 1, 1), ("ask", "a", 1), ("send", 0, 1), ("arrive", 0, 1, 0), ("send", 1, 2)])
        self.world.do_all([("arrive", 1, 2, 0), ("send", 2, 1)])
        self.assertIn(("consent", 3, 1), self.world.link(2, 1)[0])
        self.assertIn(("release", 1, 1), self.world.link(2, 1)[0])
        self.assertEqual(self.world.do(("arrive", 2, 1, 0)), [])

    def test_an_empty_message(self):
        self.world.do(("tell", 1, 2, ()))
        self.world.do(("tell", 1, 0, ()))
        self.assertEqual([self.world.do(("arrive", 1, 2, 0)), self.world.do(("arrive", 1, 0, 0))], [[], []])
        self.assertEqual(self.world.spender(2).log, [("learned", ())])

    def test_full_links(self):
        for many in range(6):
            self.assertEqual(len(self.world.link(0, 1)), many)
            self.world.do(("tell", 0, 1, (DEPOSIT,)[:many % 2]))
        full = self.world.link(0, 1)
        for action in (("tell", 0, 1, (DEPOSIT,)), ("send", 0, 1), ("copy", 0, 1, 5)):
            self.assertIsNone(self.world.do(action))
            self.assertEqual(self.world.link(0, 1), full)
        # The other links have room, and this one has it again when a message has left.
        for action in (("send", 1, 0), ("send", 0, 2), ("lose", 0, 1, 0), ("send", 0, 1)):
            self.world.do(action)
        self.assertEqual(self.world.link(0, 1), full[1:] + [(DEPOSIT, *self.rows)])
        self.world.do(("arrive", 0, 1, 5))
        self.world.do(("copy", 0, 1, 0))
        self.assertEqual(self.world.link(0, 1), full[1:] + [full[1]])
        self.assertEqual([len(self.world.link(1, 0)), len(self.world.link(0, 2)), len(self.world.actions)], [1, 1, 18])

    def test_lists_of_their_own(self):
        self.world.do(("send", 0, 1))
        messages = self.world.link(0, 1)
        self.assertEqual([type(messages), type(messages[0])], [list, tuple])
        messages.clear()
        self.assertEqual(len(self.world.link(to=1, node=0)), 1)
        for read in (lambda: self.world.made, lambda: self.world.nodes, lambda: self.world.actions,
                     lambda: self.world.log, lambda: self.world.claims, lambda: self.world.spent,
                     lambda: self.world.ideal):
            kept = read()
            self.assertIs(type(kept), list)
            self.assertIsNot(kept, read())
            before = list(kept)
            kept.clear()
            self.assertEqual(read(), before)
        balances = self.world.balances
        balances.clear()
        self.assertEqual(self.world.balances, {"a": 5, "b": 0, "c": 0})
        result = self.world.do(("arrive", 0, 1, 0))
        result.clear()
        self.assertEqual(self.world.spender(1).log[-1], ("spend", 3))
        new = self.world.do_all([("deposit", 1, "b", 1), ("send", 1, 0), ("arrive", 1, 0, 0)])[-1]
        new.clear()
        self.assertEqual(len(self.world.keeper), 4)


class TestNodes(unittest.TestCase):
    def test_twins_of_a_spender_and_of_the_keeper(self):
        world = world_of(("join", "a", 3), ("deposit", 0, "a", 2))
        spender, keeper = world.spender(place=1), world.keeper
        self.assertEqual([type(spender), type(keeper)], [Spender, View])
        spender.learn(DEPOSIT)
        keeper.learn(("withdrawn", 9))
        self.assertEqual([world.spent, world.spender(1).log, world.keeper.facts],
                         [[0], [], [("deposit", 1, "a", 2), ("spender", 1, "a", 3)]])
        world.do(("deposit", 1, "a", 9))
        self.assertEqual([spender.spent, len(keeper)], [3, 3])


if __name__ == "__main__":
    unittest.main()
