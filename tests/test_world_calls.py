"""hearpurse.worlds, [7.4]: do_all, what can be read from a world, twins and settling."""

import copy
import unittest

from hearpurse.errors import InvalidAction, MissingConsent, PurseError
from hearpurse.forests import Forest
from hearpurse.rules import RULES
from hearpurse.worlds import World
from tests.drawn import draw_action, draw_world, view_of
from tests.models import PlainWorld
from tests.samples import ABC, NO_NAMES, Mixed
from tests.test_world_errors import small_world, state_of

GOOD = [("join", "a", 3), ("join", "b", 4), ("deposit", 0, "a", 5), ("send", 0, 2), ("arrive", 0, 2, 0), ("release", 1, 1)]
RESULTS = [1, 2, 1, None, [], 1]

BAD = [None, [], (), ("join",), ("join", "x", 1), ["join", "a", 1], ("withdraw", 1), ("send", 0, 0), ("arrive", 2, 0, 0)]


def pairs(many):
    """Return the log of so many calls."""
    return [(word, call) for call in range(1, many + 1) for word in ("begin", "end")]


class TestDoAll(unittest.TestCase):
    def refuse(self, world, actions, index):
        before, log = state_of(world), world.log
        with self.subTest(actions=actions):
            with self.assertRaises(InvalidAction) as caught:
                world.do_all(actions)
            self.assertEqual(caught.exception.index, index)
            self.assertEqual(state_of(world), before)
            self.assertEqual(world.log, log + pairs(len(log) // 2 + 1)[-2:])

    def test_all_done(self):
        for actions in (GOOD, tuple(GOOD)):
            world = World(Forest(ABC))
            found = world.do_all(actions)
            self.assertIs(type(found), list)
            self.assertEqual(found, RESULTS)
            self.assertEqual([world.actions, world.log], [GOOD, [("begin", 1), ("end", 1)]])
        one = World(Forest(ABC))
        self.assertEqual([one.do(action) for action in GOOD], RESULTS)
        self.assertEqual(state_of(one), state_of(world))
        self.assertEqual([one.actions, one.log], [GOOD, pairs(6)])

    def test_by_name(self):
        world = World(Forest(ABC))
        self.assertEqual([world.do_all(actions=GOOD[:1]), world.do(action=GOOD[1])], [[1], 2])

    def test_empty(self):
        world = small_world()
        before = state_of(world)
        self.assertEqual([world.do_all([]), world.do_all(())], [[], []])
        self.assertEqual([state_of(world), world.log], [before, pairs(3)])

    def test_an_error_at_each_index(self):
        for bad in BAD:
            for index in range(len(GOOD) + 1):
                world = World(Forest(ABC))
                self.refuse(world, GOOD[:index] + [bad] + GOOD[index:], index)
                self.refuse(world, tuple(GOOD[:index]) + (bad, bad), index)
                self.assertEqual(world.do_all(GOOD), RESULTS)

    def test_each_error_becomes_one_of_the_list(self):
        world = small_world()
        for index, action in enumerate([
            ("send", 0, 9), ("join", "x", 1), ("join", "a", 0), ("ask", "a", 9), ("release", 1, 9),
            ("tell", 0, 1, (None,)), ("lose", 0, 3, 0), ("withdraw", 1), ("withdraw", 2), (),
        ]):
            with self.assertRaises(PurseError):
                world.do(action)
            self.refuse(world, [("deposit", 0, "c", 1)] * index + [action], index)

    def test_no_list(self):
        world = small_world()
        for value in NO_NAMES + ["a", "join", {"join": 1}]:
            if not isinstance(value, (list, tuple)):
                self.refuse(world, value, 0)
        self.refuse(world, ("join", "a", 3), 0)
        self.refuse(world, [[("join", "a", 3)]], 0)

    def test_what_was_handed_in_stays_as_it_is(self):
        actions = list(GOOD)
        world = World(Forest(ABC))
        world.do_all(actions)
        self.assertEqual(actions, GOOD)
        actions.append(("join", "c", 1))
        self.assertEqual(world.actions, GOOD)
        kept = copy.deepcopy([GOOD + [None]])
        self.refuse(World(Forest(ABC)), kept[0], 6)
        self.assertEqual(kept, [GOOD + [None]])


class TestLog(unittest.TestCase):
    def test_calls_in_their_order(self):
        world = World(Forest(ABC))
        self.assertEqual(world.log, [])
        world.do(GOOD[0])
        self.assertEqual(world.log, [("begin", 1), ("end", 1)])
        with self.assertRaises(PurseError):
            world.do(None)
        self.assertEqual(world.log, pairs(2))
        world.do_all(GOOD[1:])
        with self.assertRaises(PurseError):
            world.do_all([GOOD[2], None])
        with self.assertRaises(PurseError):
            world.do_all(None)
        self.assertEqual([world.log, world.actions], [pairs(5), GOOD])

    def test_reading_and_settling_are_no_calls(self):
        world = small_world()
        log, actions = world.log, world.actions
        state_of(world)
        world.twin()
        world.settle()
        self.assertEqual([world.log, world.actions], [log, actions])

    def test_the_actions_that_were_done(self):
        world = small_world()
        before = world.actions
        for action in BAD + [("withdraw", 2), ("ask", "a", 9)]:
            with self.assertRaises(PurseError):
                world.do(action)
        # A message that is lost was sent all the same.
        for _ in range(6):
            world.do(("send", 0, 1))
        self.assertEqual(world.actions, before + [("send", 0, 1)] * 6)


class TestTwin(unittest.TestCase):
    def test_either_goes_on_alone(self):
        for rule in RULES:
            world = World(Forest(ABC), rule=rule)
            world.do_all(GOOD)
            world.do(("send", 0, 1))
            twin = world.twin()
            self.assertIs(type(twin), World)
            self.assertEqual([state_of(twin), twin.log], [state_of(world), world.log])
            before = state_of(world)
            twin.do_all([("release", 2, 1), ("arrive", 0, 1, 0), ("deposit", 2, "b", 9), ("join", "c", 1), ("send", 2, 0)])
            self.assertEqual([state_of(world), world.log, world.link(2, 0)], [before, pairs(2), []])
            after = state_of(twin)
            world.do_all([("lose", 0, 1, 0), ("deposit", 0, "c", 2), ("ask", "a", 1)])
            self.assertEqual([state_of(twin), twin.log], [after, pairs(3)])
            self.assertEqual([world.made[-1][1], twin.nodes], [("request", 3, "a", 1), [0, 1, 2, 3]])

    def test_twins_do_the_same(self):
        mixed = Mixed(71)
        for _ in range(20):
            world = draw_world(mixed, 40)
            twin = world.twin()
            for _ in range(20):
                action = draw_action(mixed, world)
                found = []
                for each in (world, twin):
                    try:
                        found.append(each.do(action))
                    except PurseError as error:
                        found.append([type(error), vars(error)])
                self.assertEqual(found[0], found[1])
            self.assertEqual([state_of(twin), twin.log], [state_of(world), world.log])


class TestActualState(unittest.TestCase):
    def test_by_hand(self):
        world = World(Forest(ABC))
        world.do_all([
            ("join", "a", 9), ("join", "b", 8), ("deposit", 0, "a", 5), ("deposit", 2, "b", 4), ("deposit", 1, "b", 3),
            ("ask", "a", 2), ("release", 2, 3), ("release", 2, 2), ("join", "c", 1),
        ])
        self.assertEqual(world.claims, [("a", 9), ("b", 3), ("c", 1)])
        self.assertEqual(list(world.balances.items()), [("a", 5), ("b", 7), ("c", 0)])
        self.assertEqual([world.spent, world.ideal], [[3, 0, 0], [9, 3, 0]])
        # Nobody is told of the withdrawal, and yet it counts.
        world.do_all([("send", 0, 1), ("arrive", 0, 1, 0), ("send", 0, 2), ("arrive", 0, 2, 0)])
        world.do_all([("send", 1, 0), ("arrive", 1, 0, 0), ("send", 2, 0), ("arrive", 2, 0, 0), ("withdraw", 3)])
        self.assertEqual([world.balances, world.ideal], [{"a": 3, "b": 7, "c": 0}, [9, 1, 0]])
        self.assertEqual(world.spent, [6, 0, 0])

    def test_a_barred_request_takes_nothing(self):
        world = World(Forest(ABC))
        world.do_all([("join", "a", 5), ("deposit", 1, "a", 5), ("send", 1, 0), ("arrive", 1, 0, 0), ("ask", "a", 2)])
        world.settle()
        self.assertTrue(world.keeper.is_barred(2))
        self.assertEqual([world.balances["a"], world.ideal, world.spent], [5, [5], [5]])


class TestSettle(unittest.TestCase):
    def test_no_nodes_but_the_keeper(self):
        world = World(Forest(ABC))
        self.assertEqual([world.settle(), world.settle()], [1, 1])
        world.do(("deposit", 0, "a", 1))
        self.assertEqual(world.settle(), 1)

    def test_the_number_of_rounds(self):
        world = World(Forest(ABC))
        world.do(("join", "a", 3))
        # The keeper knows the row, and the spender too.
        self.assertEqual(world.settle(), 1)
        world.do(("deposit", 0, "a", 5))
        self.assertEqual([world.settle(), world.spent, world.settle()], [2, [3], 1])
        world.do(("ask", "a", 2))
        self.assertEqual([world.settle(), world.keeper.facts[0], world.settle()], [3, ("consent", 2, 1), 1])

    def test_messages_under_way_arrive_first(self):
        world = World(Forest(ABC))
        world.do_all([("join", "a", 3), ("join", "a", 4), ("deposit", 0, "a", 5), ("send", 0, 1), ("tell", 0, 1, ())])
        world.do_all([("send", 1, 2), ("send", 2, 0)])
        self.assertEqual(world.settle(), 2)
        deposit, first, second = ("deposit", 1, "a", 5), ("spender", 1, "a", 3), ("spender", 2, "a", 4)
        self.assertEqual(world.spender(1).log, [("learned", (deposit, second)), ("spend", 3)] + [("learned", ())] * 5)
        self.assertEqual(world.spender(2).log,
                         [("learned", (first,)), ("learned", (deposit,)), ("spend", 2)] + [("learned", ())] * 3)
        self.assertEqual([world.link(node, to) for node in (0, 1, 2) for to in (0, 1, 2) if node != to], [[]] * 6)

    def test_a_round_in_which_only_messages_under_way_arrive_counts(self):
        world = World(Forest(ABC))
        world.do_all([("join", "a", 3), ("deposit", 1, "a", 2), ("send", 1, 0)])
        self.assertEqual([world.settle(), len(world.keeper)], [2, 2])

    def test_all_nodes_know_all(self):
        mixed = Mixed(72)
        for _ in range(60):
            world = draw_world(mixed, 60)
            log, actions = world.log, world.actions
            world.settle()
            every = sorted(fact for _, fact in world.made)
            for node in world.nodes:
                self.assertEqual(view_of(world, node).facts, every)
            self.assertEqual([world.log, world.actions], [log, actions])
            spent, made = world.spent, world.made
            self.assertEqual([world.settle(), world.spent, world.made], [1, spent, made])

    def test_20_rows(self):
        world = World(Forest(ABC))
        for place in range(1, 20):
            world.do(("join", "abc"[place % 3], place))
        world.do_all([("deposit", mark % 19, "abc"[mark % 3], 2) for mark in range(20)] + [("ask", "a", 2)])
        world.settle()
        self.assertEqual([len(world.keeper), world.settle()], [20 + 20 + 19, 1])


def outcome(world, action):
    """Return what the action does, an error as the models write it."""
    try:
        return world.do(action)
    except PurseError as error:
        return ("error", type(error).__name__, next(iter(vars(error).values()), None))


class TestDrawn(unittest.TestCase):
    def wrong_action(self, mixed, world):
        """Return an action some of whose parts are wrong."""
        action = list(draw_action(mixed, world))
        at = 1 + mixed.below(len(action) - 1)
        action[at] = mixed.one_of([0, 1, 2, 3, 5, -1, 10 ** 10, True, "a", "x", None, (), [], ("withdrawn", 1)])
        return tuple(action)

    def judge(self, world, plain):
        self.assertEqual(world.made, plain.made)
        self.assertEqual([world.nodes, world.spent], [plain.nodes(), plain.spent()])
        for node in world.nodes:
            self.assertEqual(view_of(world, node).facts, sorted(plain.facts(node)))
            for to in world.nodes:
                if to != node:
                    self.assertEqual(world.link(node, to), plain.queue(node, to))
        for place in world.nodes[1:]:
            self.assertEqual(world.spender(place).log, plain.spenders[place].log)
        self.assertEqual([world.claims, world.balances, world.ideal], [plain.claims(), plain.balances(), plain.ideal()])

    def test_beside_what_the_document_says(self):
        mixed = Mixed(73)
        done = {}
        for rule in RULES + RULES[:1] * 6:
            for _ in range(8):
                world = draw_world(mixed, 0, rule=rule)
                names = world.forest.names
                rows = [(name, (world.forest.ancestors(name) + [None])[1]) for name in names]
                plain = PlainWorld(rows, rule)
                for _ in range(60):
                    action = (self.wrong_action if mixed.below(5) == 0 else draw_action)(mixed, world)
                    expected = plain.do(action)
                    found = outcome(world, action)
                    self.assertEqual(repr(found) if "error" in repr(found)[:9] else found,
                                     repr(expected) if "error" in repr(found)[:9] else expected, action)
                    word = found[1] if isinstance(found, tuple) else action[0]
                    done[word] = done.get(word, 0) + 1
                    self.judge(world, plain)
                    if mixed.below(15) == 0:
                        self.assertEqual(world.settle(), plain.settle())
                self.assertEqual(world.settle(), plain.settle())
                self.judge(world, plain)
        words = ["join", "ask", "deposit", "release", "tell", "send", "arrive", "lose", "copy", "withdraw"]
        names = ["UnknownNode", "UnknownAccount", "InvalidBalances", "TooMuch", "InvalidFact", "InvalidMessage",
                 "UnknownRequest", "MissingConsent"]
        for word in words + names:
            self.assertGreater(done[word], 9, (word, done))


class TestExample(unittest.TestCase):
    def test_the_example_of_the_document(self):
        world = World(Forest([("a", None)]))
        self.assertEqual(world.do_all([("join", "a", 3), ("deposit", 0, "a", 5), ("ask", "a", 5)]), [1, 1, 2])
        with self.assertRaises(MissingConsent) as caught:
            world.do(("withdraw", 2))
        self.assertEqual(caught.exception.places, (1,))


if __name__ == "__main__":
    unittest.main()
