"""hearpurse.missing, [8.1]: the minimal sets of unknown facts that bring a spender as far as all of them."""

import itertools
import unittest

from hearpurse.errors import TooMany, UnknownNode
from hearpurse.forests import Forest
from hearpurse.missing import missing
from hearpurse.worlds import World
from tests.drawn import WITHOUT_REQUESTS, draw_world
from tests.samples import ABC, NO_INTS, NO_STRINGS, Mixed
from tests.test_world_errors import small_world, state_of


def world_of(*actions, rows=ABC):
    world = World(Forest(rows))
    world.do_all(actions)
    return world


def considered(world, place):
    """Return the facts that the document considers, ascending."""
    known = world.spender(place).view.facts
    found = []
    for _, fact in world.made:
        ahead = fact[0] in ("spender", "request", "release") and fact[1] < place
        if (ahead or fact[0] in ("deposit", "refuse")) and fact not in known:
            found.append(fact)
    return sorted(found)


def spent_with(world, place, facts):
    spender = world.spender(place)
    spender.learn(*facts)
    return spender.spent


def search(world, place):
    """Try all sets, and keep those that are enough and hold no other one that is."""
    facts = considered(world, place)
    most = spent_with(world, place, facts)
    enough = []
    for many in range(len(facts) + 1):
        for chosen in itertools.combinations(facts, many):
            if not any(set(one) <= set(chosen) for one in enough) and spent_with(world, place, chosen) == most:
                enough.append(chosen)
    return enough


class TestPlaces(unittest.TestCase):
    def test_it_is_defined_in_its_file(self):
        self.assertEqual(missing.__module__, "hearpurse.missing")

    def test_places_that_are_no_spenders(self):
        world = small_world()
        for value in NO_INTS + [value for value in NO_STRINGS if value not in (1, 3) or value is True] + [0, 2, 4, 20, -1]:
            with self.subTest(value=value):
                with self.assertRaises(UnknownNode) as caught:
                    missing(world, value)
                self.assertIs(caught.exception.node, value)

    def test_by_name(self):
        self.assertEqual(missing(place=3, world=small_world()), None)


class TestSets(unittest.TestCase):
    def test_a_spender_that_has_spent_its_ideal(self):
        world = world_of(("join", "a", 3), ("join", "a", 3), ("deposit", 1, "a", 3), ("deposit", 0, "a", 2))
        self.assertIsNone(missing(world, 1))
        self.assertEqual(missing(world, 2), [(("deposit", 1, "a", 3), ("deposit", 2, "a", 2), ("spender", 1, "a", 3))])
        world.settle()
        self.assertIsNone(missing(world, 2))

    def test_an_ideal_of_nothing(self):
        world = world_of(("join", "a", 3), ("join", "a", 3), ("deposit", 0, "a", 3))
        self.assertIsNone(missing(world, 2))
        self.assertEqual(missing(world, 1), [(("deposit", 1, "a", 3),)])

    def test_deposits(self):
        world = world_of(("join", "a", 5), ("deposit", 0, "a", 3), ("deposit", 0, "b", 2), ("deposit", 0, "c", 5),
                         ("deposit", 0, "a", 3))
        one, two, three, four = [("deposit", mark, account, amount) for mark, account, amount in
                                 ((1, "a", 3), (2, "b", 2), (3, "c", 5), (4, "a", 3))]
        self.assertEqual(missing(world, 1), [(three,), (one, two), (one, four), (two, four)])

    def test_rows_ahead(self):
        world = world_of(("join", "b", 3), ("deposit", 0, "c", 4), ("ask", "c", 1), ("join", "c", 9), ("deposit", 3, "a", 3),
                         ("send", 0, 3))
        rows = (("request", 2, "c", 1), ("spender", 1, "b", 3))
        self.assertEqual(missing(world, 3), [(("deposit", 1, "c", 4),) + rows])
        world.do_all([("tell", 0, 3, rows), ("arrive", 0, 3, 1)])
        self.assertEqual(missing(world, 3), [(("deposit", 1, "c", 4),)])
        world.do(("arrive", 0, 3, 0))
        # Only the request keeps it from its ideal, and nothing that is missing would help.
        self.assertEqual([world.spent, world.ideal, missing(world, 3)], [[0, 3], [0, 4], [()]])

    def test_releases_of_seniors(self):
        world = world_of(("join", "a", 4), ("join", "a", 4), ("join", "a", 4), ("deposit", 0, "a", 5), ("send", 0, 2),
                         ("arrive", 0, 2, 0), ("send", 0, 3), ("arrive", 0, 3, 0), ("release", 1, 1), ("release", 1, 2),
                         ("release", 3, 1))
        self.assertEqual([world.spent, missing(world, 2)], [[0, 1, 0], [(("release", 1, 3),)]])
        world.do(("release", 2, 2))
        self.assertEqual([world.ideal, missing(world, 2)], [[1, 2, 2], [(("release", 1, 1),), (("release", 1, 3),)]])
        self.assertEqual(missing(world, 3), [(("release", 1, 3), ("release", 2, 2))])

    def test_refusals(self):
        world = world_of(("join", "a", 4), ("join", "a", 4), ("deposit", 0, "a", 5), ("send", 0, 1), ("arrive", 0, 1, 0),
                         ("ask", "a", 2), ("send", 0, 2), ("arrive", 0, 2, 0), ("send", 0, 1), ("arrive", 0, 1, 0))
        self.assertEqual([world.spent, world.ideal], [[4, 0], [4, 1]])
        self.assertEqual(world.spender(2).view.facts[0], ("consent", 3, 2))
        self.assertEqual(missing(world, 2), [(("refuse", 3, 1),)])

    def test_facts_that_are_not_considered(self):
        actions = [("join", "a", 9), ("deposit", 0, "a", 3), ("ask", "a", 1), ("send", 0, 1), ("arrive", 0, 1, 0),
                   ("join", "b", 3), ("join", "c", 2), ("release", 3, 2), ("send", 0, 3), ("arrive", 0, 3, 0),
                   ("send", 1, 0), ("arrive", 1, 0, 0), ("withdraw", 2), ("ask", "a", 1)]
        world = world_of(*actions)
        self.assertEqual([world.spent[0], world.ideal[0], considered(world, 1)], [2, 2, []])
        world.do(("deposit", 0, "a", 1))
        self.assertEqual(missing(world, 1), [(("deposit", 2, "a", 1),)])
        # Of the junior's it considers none, though they are unknown to it.
        unknown = [fact for _, fact in world.made if fact not in world.spender(1).view.facts]
        self.assertEqual(sorted({fact[0] for fact in unknown}),
                         ["deposit", "release", "request", "spender", "withdrawn"])

    def test_all_together_bring_nothing(self):
        world = world_of(("join", "a", 3), ("deposit", 0, "a", 3), ("ask", "a", 2), ("send", 0, 1), ("arrive", 0, 1, 0))
        self.assertEqual([world.spent, world.ideal, missing(world, 1)], [[1], [3], [()]])
        world.do(("deposit", 0, "c", 1))
        self.assertEqual(missing(world, 1), [(("deposit", 2, "c", 1),)])
        # With the rows and all deposits, less the request, the senior uses up what there is.
        world.do_all([("join", "b", 1), ("deposit", 3, "b", 1)])
        self.assertEqual([world.ideal, considered(world, 3) == [], missing(world, 3)], [[3, 1], False, [()]])

    def test_12_and_13_facts(self):
        world = world_of(("join", "a", 6), ("join", "a", 100), *[("deposit", 0, "a", 1)] * 12)
        deposits = [("deposit", mark, "a", 1) for mark in range(1, 13)]
        self.assertEqual(missing(world, 1), list(itertools.combinations(deposits, 6)))
        with self.assertRaises(TooMany) as caught:
            missing(world, 2)
        self.assertEqual(caught.exception.limit, 12)
        world.do_all([("tell", 0, 2, (("spender", 1, "a", 6),)), ("arrive", 0, 2, 0)])
        self.assertEqual(missing(world, 2), [tuple(deposits)])
        world.do(("deposit", 0, "b", 1))
        for place in (1, 2):
            with self.assertRaises(TooMany):
                missing(world, place)
        # A spender that has spent its ideal is missing nothing, whatever it does not know.
        world.do_all([("deposit", 1, "a", 6), ("join", "b", 1)])
        self.assertIsNone(missing(world, 1))
        self.assertIsNone(missing(world, 3))

    def test_the_world_stays_as_it_is(self):
        world = world_of(("join", "a", 3), ("join", "a", 3), ("deposit", 0, "a", 5))
        before, log = state_of(world), world.log
        found = missing(world, 2)
        self.assertEqual([type(found), type(found[0]), type(found[0][0])], [list, tuple, tuple])
        found.clear()
        self.assertEqual([state_of(world), world.log], [before, log])
        self.assertEqual(len(missing(world, 2)), 1)


class TestDrawn(unittest.TestCase):
    def tell_keeper_all(self, world):
        """Let each spender send the keeper what it knows."""
        for place in world.nodes[1:]:
            while world.link(place, 0):
                world.do(("lose", place, 0, 0))
            world.do_all([("send", place, 0), ("arrive", place, 0, 0)])

    def check_message(self, world, place, facts, most):
        """Check that a message with these facts lets the spender spend as much as all missing facts."""
        other = world.twin()
        while other.link(0, place):
            other.do(("lose", 0, place, 0))
        rank = other.nodes.index(place) - 1
        other.do_all([("tell", 0, place, facts), ("arrive", 0, place, 0)])
        self.assertEqual(other.spent[rank], most)

    def test_beside_a_search_over_all_sets(self):
        mixed = Mixed(91)
        sizes = {}
        for turn in range(220):
            words = {"words": WITHOUT_REQUESTS} if turn % 3 == 0 else {}
            world = draw_world(mixed, 25 + mixed.below(30), settles=40, most_facts=16, **words)
            self.tell_keeper_all(world)
            for rank, place in enumerate(world.nodes[1:]):
                with self.subTest(made=world.made, place=place):
                    if world.spent[rank] == world.ideal[rank]:
                        self.assertIsNone(missing(world, place))
                    elif len(considered(world, place)) <= 9:
                        found = missing(world, place)
                        self.assertEqual(found, search(world, place))
                        most = spent_with(world, place, considered(world, place))
                        for facts in found[:6]:
                            self.check_message(world, place, facts, most)
                        sizes[len(found[0])] = sizes.get(len(found[0]), 0) + 1
                        sizes["several"] = sizes.get("several", 0) + (len(found) > 1)
        for size in (0, 1, 2, 3, 4, "several"):
            self.assertGreater(sizes[size], 5, sizes)


if __name__ == "__main__":
    unittest.main()
