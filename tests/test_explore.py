"""hearpurse.explore, [9.1]: all reachable states beside a plain search, and the examples of the faulty rules."""

import copy
import unittest

from hearpurse.entitlements import overdrawn
from hearpurse.errors import InvalidAction, PurseError, TooMany, UnknownRule
from hearpurse.explore import example, explore, reachable
from hearpurse.forests import Forest
from hearpurse.rules import RULES
from hearpurse.worlds import World
from tests.drawn import draw_action
from tests.models import PlainWorld
from tests.samples import ABC, NO_STRINGS, Mixed, model_overdrawn
from tests.test_spenders import NO_RULES
from tests.test_world_errors import state_of


def world_of(*actions, rows=ABC, rule="correct"):
    world = World(Forest(rows), rule=rule)
    world.do_all(actions)
    return world


def is_over(world):
    return overdrawn(world.forest, world.claims, world.spent, world.balances) is not None


def plain_of(world):
    """Return a plain world in which the same was done."""
    names = world.forest.names
    plain = PlainWorld([(name, (world.forest.ancestors(name) + [None])[1]) for name in names], world.rule)
    for action in world.actions:
        plain.do(action)
    return plain


def plain_key(plain, tried):
    links = [(pair, messages) for pair, messages in sorted(plain.links.items()) if messages]
    return repr((tried, [sorted(plain.facts(node)) for node in plain.nodes()], plain.spent(), links))


def plain_steps(plain, tried, actions):
    """Return the pairs (state, tried) that are one step away."""
    found = []
    for (node, to), messages in sorted(plain.links.items()):
        for index in range(len(messages)):
            other = copy.deepcopy(plain)
            other.do(("arrive", node, to, index))
            found.append((other, tried))
    if tried < len(actions):
        other = copy.deepcopy(plain)
        action = actions[tried]
        result = other.do(action) if isinstance(action, tuple) else ("error",)
        is_error = isinstance(result, tuple) and result[0] == "error"
        found.append((other, len(actions) if is_error else tried + 1))
    return found


def search(world, actions):
    """Return the list of all reachable states as triples (distance, plain world, tried)."""
    start = (0, plain_of(world), 0)
    seen = {plain_key(start[1], 0)}
    queue = [start]
    for distance, plain, tried in queue:
        for other, many in plain_steps(plain, tried, actions):
            if plain_key(other, many) not in seen:
                seen.add(plain_key(other, many))
                queue.append((distance + 1, other, many))
    return queue


def replay(world, steps, actions):
    """Return the world behind these steps; an action that raises an error ends the list."""
    other = world.twin()
    left = list(actions)
    for step in steps:
        if step is None:
            try:
                other.do(left.pop(0))
            except PurseError:
                left = []
        else:
            other.do(("arrive",) + step)
    return other


class TestReachable(unittest.TestCase):
    def test_they_are_defined_in_their_file(self):
        self.assertEqual([each.__module__ for each in (reachable, explore, example)], ["hearpurse.explore"] * 3)

    def test_it_is_a_generator(self):
        found = reachable(world_of(("join", "a", 3)))
        self.assertIs(iter(found), found)
        self.assertEqual(next(found), (0, [0]))
        with self.assertRaises(StopIteration):
            next(found)

    def test_no_actions_and_no_messages(self):
        self.assertEqual(list(reachable(World(Forest(ABC)))), [(0, [])])
        world = world_of(("join", "a", 3), ("join", "b", 2), ("deposit", 1, "a", 2))
        for actions in ((), []):
            self.assertEqual(list(reachable(world, actions=actions)), [(0, [2, 0])])
            self.assertEqual(explore(world, actions=actions), {"states": 1, "overdrawn": None, "ends": 1})

    def test_the_arguments_behind_the_star_by_keyword_only(self):
        world = world_of(("join", "a", 3))
        for function in (reachable, explore):
            with self.assertRaises(TypeError):
                function(world, [])
            function(world=world, actions=[], limit=1)

    def test_actions(self):
        world = world_of(("join", "a", 3))
        actions = [("deposit", 1, "a", 1), ("deposit", 1, "a", 5), ("join", "b", 1)]
        expected = [(0, [0]), (1, [1]), (2, [3]), (3, [3, 0])]
        for each in (actions, tuple(actions)):
            self.assertEqual(list(reachable(world, actions=each)), expected)
            self.assertEqual(explore(world, actions=each), {"states": 4, "overdrawn": None, "ends": 1})
        self.assertEqual(type(list(reachable(world))[0][1]), list)

    def test_an_action_that_raises_an_error(self):
        world = world_of(("join", "a", 3))
        good = ("deposit", 1, "a", 1)
        for bad in (("join", "x", 1), ("withdraw", 1), None, [], "a", ("arrive", 0, 1, 0), ("release", 1, 4)):
            # The bad one and all behind it are dropped by one step.
            self.assertEqual(list(reachable(world, actions=[good, bad, good, good])), [(0, [0]), (1, [1]), (2, [1])])
            self.assertEqual(list(reachable(world, actions=[bad, good])), [(0, [0]), (1, [0])])
            self.assertEqual(explore(world, actions=[good, bad, good]), {"states": 3, "overdrawn": None, "ends": 1})

    def test_messages_under_way(self):
        world = world_of(("join", "a", 3), ("deposit", 0, "a", 1), ("send", 0, 1), ("deposit", 0, "a", 1), ("send", 0, 1))
        # The second message brings all that the first one does, but leaves it under way.
        self.assertEqual(sorted(reachable(world)), [(0, [0]), (1, [1]), (1, [2]), (2, [2])])
        self.assertEqual(explore(world), {"states": 4, "overdrawn": None, "ends": 1})

    def test_equal_messages(self):
        world = world_of(("join", "a", 3), ("deposit", 0, "a", 1), ("send", 0, 1), ("send", 0, 1), ("send", 0, 1))
        self.assertEqual(list(reachable(world)), [(0, [0]), (1, [1]), (2, [1]), (3, [1])])

    def test_the_order_of_the_messages_of_a_link_matters(self):
        # Whichever arrives first, the two that are left have an order.
        told = [("tell", 0, 1, (("deposit", mark, "a", 1),)) for mark in (1, 2)]
        world = world_of(("join", "a", 3), *[("deposit", 0, "a", 1)] * 2)
        self.assertEqual(len(list(reachable(world, actions=[told[0], told[1]]))), 3 + 2 + 2)
        # A copy of the first joins behind the second: another order than that of the first two.
        world.do_all(told)
        found = list(reachable(world, actions=[("copy", 0, 1, 0), ("lose", 0, 1, 0), ("copy", 0, 1, 0), ("lose", 0, 1, 0)]))
        self.assertEqual(len(found), len(search(world, [("copy", 0, 1, 0), ("lose", 0, 1, 0)] * 2)))

    def test_what_was_tried_distinguishes_states(self):
        world = world_of(("join", "a", 3), ("join", "a", 3), *[("send", 0, 1)] * 6)
        # The link is full, so that nothing changes but how many were tried.
        found = list(reachable(world, actions=[("send", 0, 1), ("copy", 0, 1, 0)]))
        self.assertEqual([pair for pair in found if pair[0] < 2][0], (0, [0, 0]))
        self.assertEqual(len(found), len(search(world, [("send", 0, 1), ("copy", 0, 1, 0)])))

    def test_the_limit_and_one_less(self):
        world = world_of(("join", "a", 3), ("deposit", 0, "a", 1), ("send", 0, 1), ("deposit", 0, "a", 1), ("send", 0, 1))
        every = list(reachable(world, limit=100))
        self.assertEqual(list(reachable(world, limit=4)), every)
        self.assertEqual(explore(world, limit=4)["states"], 4)
        for limit in (1, 2, 3):
            found = []
            with self.assertRaises(TooMany) as caught:
                for pair in reachable(world, limit=limit):
                    found.append(pair)
            self.assertEqual([caught.exception.limit, found], [limit, every[:limit]])
            with self.assertRaises(TooMany) as caught:
                explore(world, limit=limit)
            self.assertEqual(caught.exception.limit, limit)

    def test_the_default_limit(self):
        told = [("deposit", 0, "a", 1)] * 10
        told += [("tell", 0, 1 + mark % 2, (("deposit", mark, "a", 1),)) for mark in range(1, 11)]
        world = world_of(("join", "a", 3), ("join", "a", 3), *told)
        found = []
        with self.assertRaises(TooMany) as caught:
            for pair in reachable(world):
                found.append(pair)
        self.assertEqual([caught.exception.limit, len(found)], [1000, 1000])
        with self.assertRaises(TooMany):
            explore(world)
        self.assertEqual(explore(world, limit=1024)["states"], 1024)
        world.do(("lose", 0, 1, 0))
        self.assertEqual([len(list(reachable(world))), explore(world)["states"]], [512, 512])

    def test_exactly_1000_and_more(self):
        told = [("tell", 0, 2, (("deposit", mark, "a", 1),)) for mark in (1, 2, 3)]
        world = world_of(("join", "a", 500), ("join", "a", 3), *[("deposit", 0, "a", 1)] * 3, *told)
        actions = [("release", 1, 1)] * 124
        # Each message may have arrived or not, whatever was released.
        self.assertEqual(len(list(reachable(world, actions=actions))), 1000)
        self.assertEqual(explore(world, actions=actions), {"states": 1000, "overdrawn": None, "ends": 1})
        with self.assertRaises(TooMany) as caught:
            explore(world, actions=actions + actions[:1])
        self.assertEqual(caught.exception.limit, 1000)

    def test_the_world_and_the_list_stay_as_they_are(self):
        world = world_of(("join", "a", 3), ("deposit", 0, "a", 1), ("send", 0, 1))
        actions = [("send", 0, 1), ("deposit", 1, "a", 1), None]
        before = [state_of(world), world.log, list(actions)]
        first = list(reachable(world, actions=actions))
        explore(world, actions=actions)
        self.assertEqual([state_of(world), world.log, actions], before)
        first[0][1].clear()
        self.assertEqual(list(reachable(world, actions=actions))[0], (0, [0]))


class TestExplore(unittest.TestCase):
    def test_a_dict_of_its_own(self):
        world = world_of(("join", "a", 3))
        found = explore(world)
        self.assertEqual([type(found), list(found)], [dict, ["states", "overdrawn", "ends"]])
        found.clear()
        self.assertEqual(len(explore(world)), 3)

    def test_ends(self):
        world = world_of(("join", "a", 3), ("deposit", 0, "a", 3), ("send", 0, 1))
        # The spender has spent before it is asked, or it consents first.
        actions = [("ask", "a", 2), ("send", 0, 1), ("send", 1, 0)]
        self.assertEqual(explore(world, actions=actions)["ends"], 2)
        self.assertEqual(explore(world, actions=actions[:1])["ends"], 1)
        # A message that is lost, or not.
        self.assertEqual(explore(world, actions=[("lose", 0, 1, 0)])["ends"], 2)

    def test_an_overdrawn_start(self):
        forest, actions = example("gap")
        world = World(forest, rule="gap")
        world.do_all(actions)
        found = explore(world, actions=[("join", "a", 1)])
        self.assertEqual(found, {"states": 2, "overdrawn": [], "ends": 1})

    def test_overdrawn_by_an_action_and_by_a_message(self):
        forest, actions = example("free")
        world = World(forest, rule="free")
        world.do_all(actions[:-1])
        self.assertEqual(explore(world, actions=actions[-1:])["overdrawn"], [None])
        forest, actions = example("poor")
        world = World(forest, rule="poor")
        world.do_all(actions[:-1])
        self.assertEqual(explore(world)["overdrawn"], [(0, 2, 0)])
        found = explore(World(forest, rule="poor"), actions=actions)
        over = replay(World(forest, rule="poor"), found["overdrawn"], actions)
        self.assertTrue(is_over(over))

    def test_the_correct_rule_overdraws_nothing_with_these_actions(self):
        for rule in RULES[1:]:
            forest, actions = example(rule)
            found = explore(World(forest), actions=[action for action in actions if action[0] != "arrive"], limit=20000)
            self.assertIsNone(found["overdrawn"])
            self.assertGreater(found["states"], 5)
            other = explore(World(forest, rule=rule), actions=actions, limit=20000)
            self.assertEqual(len(other["overdrawn"]) <= len(actions), True)


class TestDrawn(unittest.TestCase):
    WORDS = ["join", "ask", "deposit", "deposit", "tell", "send", "send", "release", "copy", "arrive", "withdraw"]

    def go_on(self, mixed, world, many):
        """Do drawn actions, and return the list of all that were tried."""
        actions = []
        while len(actions) < many:
            actions.append(draw_action(mixed, world, self.WORDS, 2))
            try:
                world.do(actions[-1])
            except PurseError:
                pass
        return actions

    def draw(self, mixed, rule):
        """Return a small world with some messages under way, and some actions."""
        if rule == "correct" or mixed.below(2) == 0:
            world = World(Forest(mixed.one_of([ABC, [("a", None)]])), rule=rule)
            self.go_on(mixed, world, 10)
            return world, self.go_on(mixed, world.twin(), mixed.below(4))
        # A part of an example, of which what is left may come in another way.
        forest, actions = example(rule)
        world = World(forest, rule=rule)
        done = 3 + mixed.below(len(actions) - 2)
        world.do_all(actions[:done])
        left = [action for action in actions[done:] if action[0] != "arrive" or mixed.below(3) == 0]
        return world, left + self.go_on(mixed, world.twin(), mixed.below(3))

    def check(self, world, actions, found):
        every = search(world, actions)
        self.assertEqual(found["states"], len(every))
        ends = {
            tuple(plain.spent()) for _, plain, tried in every if tried == len(actions) and not any(plain.links.values())
        }
        self.assertEqual(found["ends"], len(ends))
        pairs = list(reachable(world, actions=actions, limit=len(every)))
        self.assertEqual([distance for distance, _ in pairs], sorted(distance for distance, _ in pairs))
        self.assertEqual(sorted(pairs), sorted((distance, plain.spent()) for distance, plain, _ in every))
        over = [
            distance for distance, plain, _ in every
            if model_overdrawn(plain.rows, plain.claims(), plain.spent(), plain.balances()) is not None
        ]
        if not over:
            self.assertIsNone(found["overdrawn"])
            return
        self.assertEqual(len(found["overdrawn"]), min(over))
        self.assertEqual(type(found["overdrawn"]), list)
        self.assertTrue(is_over(replay(world, found["overdrawn"], actions)))

    def test_beside_a_plain_search(self):
        mixed = Mixed(92)
        over = several = most = done = 0
        for turn in range(160):
            world, actions = self.draw(mixed, RULES[turn % 7])
            try:
                found = explore(world, actions=actions, limit=150)
            except TooMany:
                continue
            with self.subTest(done=world.actions, actions=actions, rule=world.rule):
                self.check(world, actions, found)
            if world.rule == "correct":
                self.assertIsNone(found["overdrawn"])
            done += 1
            over += found["overdrawn"] is not None
            several += found["ends"] > 1
            most = max(most, found["states"])
        self.assertGreater(done, 60)
        self.assertGreater(over, 5)
        self.assertGreater(several, 5)
        self.assertGreater(most, 50)


class TestExample(unittest.TestCase):
    def test_step_by_step(self):
        for rule in RULES[1:]:
            with self.subTest(rule=rule):
                found = example(rule=rule)
                self.assertEqual([type(found), len(found), type(found[0])], [tuple, 2, Forest])
                forest, actions = found
                world = World(forest, rule=rule)
                self.assertFalse(is_over(world))
                for action in actions[:-1]:
                    world.do(action)
                    self.assertFalse(is_over(world))
                world.do(actions[-1])
                self.assertTrue(is_over(world))

    def test_the_correct_rule_is_overdrawn_by_none_of_them(self):
        for rule in RULES[1:]:
            forest, actions = example(rule)
            world = World(forest)
            for action in actions:
                try:
                    world.do(action)
                except PurseError:
                    pass
                self.assertFalse(is_over(world))

    def test_lists_of_their_own(self):
        for rule in RULES[1:]:
            _, actions = example(rule)
            self.assertIs(type(actions), list)
            actions.clear()
            self.assertGreater(len(example(rule)[1]), 3)
            self.assertEqual(example(rule), example(rule))

    def test_values_that_are_no_faulty_rule(self):
        for value in NO_RULES + NO_STRINGS + ["correct", "Gap", "gap ", ("gap",), ["gap"], {"gap": True}, {"gap": []}]:
            with self.subTest(value=value):
                with self.assertRaises(UnknownRule):
                    example(value)

    def test_they_overdraw_a_world_with_the_rule_only(self):
        others = 0
        for rule in RULES[1:]:
            forest, actions = example(rule)
            for other in RULES[1:]:
                if other != rule:
                    world = World(forest, rule=other)
                    try:
                        world.do_all(actions)
                    except InvalidAction:
                        pass
                    others += is_over(world)
        # Some rules share their fault in some examples, most do not.
        self.assertLess(others, 15)


if __name__ == "__main__":
    unittest.main()
