"""hearpurse.worlds, [7.3]: the errors of do, in their order, and the reading methods that raise UnknownNode."""

import unittest

from hearpurse import errors
from hearpurse.errors import UnknownNode
from hearpurse.forests import Forest
from hearpurse.worlds import World
from tests.drawn import view_of
from tests.samples import ABC, NO_INTS, NO_NAMES, NO_STRINGS, nested
from tests.test_views import NO_FACTS

LARGEST = 10 ** 9

DEPOSIT = ("deposit", 1, "a", 5)

RIGHT = {
    "join": ("a", 3),
    "ask": ("a", 1),
    "deposit": (0, "a", 5),
    "release": (1, 1),
    "tell": (0, 1, (DEPOSIT,)),
    "send": (0, 1),
    "arrive": (0, 1, 0),
    "lose": (0, 1, 0),
    "copy": (0, 1, 0),
    "withdraw": (2,),
}

NO_NODES = NO_INTS + [-1, 2, 4, 5, 20, 21, 10 ** 30, -10 ** 30]
NO_ACCOUNTS = NO_NAMES + ["x", "aa", "d"]
NO_AMOUNTS = NO_INTS + [0, -1, LARGEST + 1, 10 ** 30, -LARGEST]
NO_INDICES = NO_INTS + [-1, -2, 2, 3, 6, 10 ** 30]

LINK_WORDS = ("tell", "send", "arrive", "lose", "copy")


def small_world():
    """Return a world with spenders at 1 and 3, an open request at 2, and two messages under way from 0 to 1."""
    world = World(Forest(ABC))
    world.do_all([
        ("join", "a", 3), ("deposit", 0, "a", 5), ("ask", "a", 2), ("join", "b", 4), ("send", 0, 1), ("tell", 0, 1, ()),
    ])
    return world


def state_of(world):
    """Return all that can be read from a world, but for its log."""
    spenders = [world.spender(place) for place in world.nodes[1:]]
    return [
        world.actions, world.made, world.rule, world.forest.text, world.nodes, world.keeper.facts,
        world.claims, list(world.balances.items()), world.spent, world.ideal,
        [(spender.place, spender.spent, spender.view.facts, spender.log) for spender in spenders],
        [world.link(node, to) for node in world.nodes for to in world.nodes if node != to],
    ]


class ErrorCase(unittest.TestCase):
    def refuse(self, world, action, error, /, **fields):
        """Check that the action raises this error with these fields, that nothing changes, and what the log has."""
        before, log = state_of(world), world.log
        with self.subTest(action=action, error=error):
            with self.assertRaises(getattr(errors, error)) as caught:
                world.do(action)
            self.assertIs(type(caught.exception), getattr(errors, error))
            for field, value in fields.items():
                self.assertEqual(repr(getattr(caught.exception, field)), repr(value))
            self.assertEqual(state_of(world), before)
            call = len(log) // 2 + 1
            self.assertEqual(world.log, log + [("begin", call), ("end", call)])


class TestForm(ErrorCase):
    def test_the_right_forms(self):
        for word, parts in RIGHT.items():
            with self.subTest(word=word):
                world = small_world()
                if word != "withdraw":
                    world.do((word,) + parts)
                    self.assertEqual(world.actions[-1], (word,) + parts)

    def test_values_that_are_no_tuples(self):
        world = small_world()
        for value in NO_NAMES + ["a", "join", "send 0 1", ["join", "a", 3], ["send", 0, 1], {"join": 3}, [("send", 0, 1)]]:
            if not isinstance(value, tuple):
                self.refuse(world, value, "InvalidAction", index=0)

    def test_tuples_that_begin_with_no_word(self):
        world = small_world()
        words = NO_NAMES + ["a", "Join", "joins", "join ", "spend", "settle", "deposits", "begin", "learn", "withdrawn"]
        for word in words + [("join",), ["join"], {"join": 1}]:
            for rest in ((), ("a", 3), (0, 1), (0, "a", 5), (3,)):
                self.refuse(world, (word,) + rest, "InvalidAction", index=0)
        self.refuse(world, (), "InvalidAction", index=0)
        self.refuse(world, (("join", "a", 3),), "InvalidAction", index=0)
        self.refuse(world, nested(18, "join", lambda inner: (inner,)), "InvalidAction", index=0)

    def test_a_part_more_or_less(self):
        world = small_world()
        for word, parts in RIGHT.items():
            for many in range(len(parts)):
                self.refuse(world, (word,) + parts[:many], "InvalidAction", index=0)
            for more in (None, 0, 1, "a", ()):
                self.refuse(world, (word,) + parts + (more,), "InvalidAction", index=0)
            self.refuse(world, (word, parts), "InvalidAction" if len(parts) > 1 else "UnknownRequest")

    def test_the_form_is_asked_first(self):
        world = small_world()
        for word, parts in RIGHT.items():
            for value in (None, [], 10 ** 12, "x", True):
                self.refuse(world, (word,) + (value,) * (len(parts) + 1), "InvalidAction", index=0)
                self.refuse(world, (word,) + (value,) * (len(parts) - 1), "InvalidAction", index=0)


class TestNodes(ErrorCase):
    def test_nodes_that_are_none(self):
        world = small_world()
        for value in NO_NODES:
            self.refuse(world, ("deposit", value, "a", 5), "UnknownNode", node=value)
            self.refuse(world, ("deposit", value, "x", 0), "UnknownNode", node=value)
            for word in LINK_WORDS:
                rest = RIGHT[word][2:]
                self.refuse(world, (word, value, 1) + rest, "UnknownNode", node=value)
                self.refuse(world, (word, 1, value) + rest, "UnknownNode", node=value)
                self.refuse(world, (word, value, value) + rest, "UnknownNode", node=value)

    def test_the_place_of_a_request_is_no_node(self):
        world = World(Forest(ABC))
        world.do_all([("deposit", 0, "a", 5), ("ask", "a", 2), ("join", "a", 3)])
        self.refuse(world, ("deposit", 1, "a", 5), "UnknownNode", node=1)
        self.refuse(world, ("release", 1, 1), "UnknownNode", node=1)
        self.refuse(world, ("send", 1, 2), "UnknownNode", node=1)
        self.refuse(world, ("send", 2, 1), "UnknownNode", node=1)
        self.assertEqual(world.do(("send", 2, 0)), None)

    def test_values_that_are_no_spender(self):
        world = small_world()
        for value in NO_NODES + [0, False]:
            self.refuse(world, ("release", value, 1), "UnknownNode", node=value)
            self.refuse(world, ("release", value, 0), "UnknownNode", node=value)

    def test_a_node_to_itself(self):
        world = small_world()
        for word in LINK_WORDS:
            for node in (0, 1, 3):
                for rest in {RIGHT[word][2:], (None,) * len(RIGHT[word][2:])}:
                    self.refuse(world, (word, node, node) + rest, "UnknownNode", node=node)

    def test_the_first_of_two_nodes_that_are_none(self):
        world = small_world()
        for word in LINK_WORDS:
            rest = RIGHT[word][2:]
            self.refuse(world, (word, 7, 8) + rest, "UnknownNode", node=7)
            self.refuse(world, (word, 8, 7) + rest, "UnknownNode", node=8)
            self.refuse(world, (word, True, 1) + rest, "UnknownNode", node=True)
            self.refuse(world, (word, 1, True) + rest, "UnknownNode", node=True)
            self.refuse(world, (word, 0, False) + rest, "UnknownNode", node=False)

    def test_the_nodes_are_asked_before_all_else(self):
        world = small_world()
        for index in (None, 9):
            for word in ("arrive", "lose", "copy"):
                self.refuse(world, (word, 0, 7, index), "UnknownNode", node=7)
        for facts in (None, [], (None,)):
            self.refuse(world, ("tell", 0, 7, facts), "UnknownNode", node=7)
            self.refuse(world, ("tell", 0, 0, facts), "UnknownNode", node=0)

    def test_reading(self):
        world = small_world()
        for value in NO_NODES + [0, False]:
            with self.subTest(value=value):
                with self.assertRaises(UnknownNode) as caught:
                    world.spender(value)
                self.assertEqual(repr(caught.exception.node), repr(value))
        for value in NO_NODES + [False]:
            for pair in ((value, 1), (1, value), (value, value), (value, None)):
                with self.subTest(pair=pair):
                    with self.assertRaises(UnknownNode) as caught:
                        world.link(*pair)
                    self.assertEqual(repr(caught.exception.node), repr(value))
        for node in (0, 1, 3):
            with self.assertRaises(UnknownNode) as caught:
                world.link(node, node)
            self.assertEqual(caught.exception.node, node)
        self.assertEqual([world.spender(3).place, world.link(3, 0), world.link(1, 3)], [3, [], []])
        self.assertEqual(len(world.log), 2)


class TestAccountsAndAmounts(ErrorCase):
    def test_unknown_accounts(self):
        world = small_world()
        for value in NO_ACCOUNTS:
            for amount in (1, 0, None, True):
                self.refuse(world, ("join", value, amount), "UnknownAccount", name=value)
                self.refuse(world, ("ask", value, amount), "UnknownAccount", name=value)
                self.refuse(world, ("deposit", 0, value, amount), "UnknownAccount", name=value)

    def test_what_is_no_amount(self):
        world = small_world()
        for value in NO_AMOUNTS:
            self.refuse(world, ("join", "a", value), "InvalidBalances")
            self.refuse(world, ("ask", "a", value), "InvalidBalances")
            self.refuse(world, ("deposit", 1, "a", value), "InvalidBalances")
            self.refuse(world, ("release", 1, value), "InvalidBalances")

    def test_the_greatest_amount(self):
        world = small_world()
        self.assertEqual(world.do(("join", "c", LARGEST)), 4)
        self.assertEqual(world.do(("deposit", 0, "c", LARGEST)), 2)
        self.assertEqual(world.do(("ask", "c", LARGEST)), 5)
        self.assertEqual(world.do(("release", 4, LARGEST)), LARGEST)


class TestRoll(ErrorCase):
    def test_20_rows_and_one_more(self):
        world = World(Forest(ABC))
        world.do(("deposit", 0, "a", 5))
        for place in range(1, 21):
            action = ("ask", "a", 1) if place in (3, 20) else ("join", "b", place)
            self.assertEqual(world.do(action), place)
        for action in (("join", "a", 1), ("join", "c", LARGEST), ("ask", "a", 1), ("ask", "a", 9)):
            self.refuse(world, action, "TooMany", limit=20)
        self.refuse(world, ("join", "x", 1), "UnknownAccount", name="x")
        self.refuse(world, ("ask", "a", 0), "InvalidBalances")
        self.assertEqual([len(world.nodes), world.nodes[-1]], [19, 19])

    def test_60_deposits_and_one_more(self):
        world = World(Forest(ABC))
        world.do(("join", "a", 100))
        for mark in range(1, 61):
            self.assertEqual(world.do(("deposit", mark % 2, "abc"[mark % 3], 1)), mark)
        for node in (0, 1):
            self.refuse(world, ("deposit", node, "a", 1), "TooMany", limit=60)
        self.refuse(world, ("deposit", 2, "a", 1), "UnknownNode", node=2)
        self.refuse(world, ("deposit", 0, "x", 1), "UnknownAccount", name="x")
        self.refuse(world, ("deposit", 0, "a", 0), "InvalidBalances")

    def test_the_bounds_of_ask(self):
        world = World(Forest(ABC))
        self.refuse(world, ("ask", "a", 1), "TooMuch", available=0)
        world.do_all([("deposit", 0, "a", 5), ("deposit", 0, "b", 9), ("deposit", 0, "a", 2)])
        self.refuse(world, ("ask", "a", 8), "TooMuch", available=7)
        self.assertEqual(world.do(("ask", "a", 4)), 1)
        self.refuse(world, ("ask", "a", 4), "TooMuch", available=3)
        self.assertEqual(world.do(("ask", "a", 3)), 2)
        self.refuse(world, ("ask", "a", 1), "TooMuch", available=0)
        # What was withdrawn does not come back.
        world.do(("withdraw", 1))
        self.refuse(world, ("ask", "a", 1), "TooMuch", available=0)
        self.refuse(world, ("ask", "b", LARGEST), "TooMuch", available=9)
        self.refuse(world, ("ask", "c", 1), "TooMuch", available=0)

    def test_ask_counts_the_deposits_that_the_keeper_knows(self):
        world = World(Forest(ABC))
        world.do_all([("join", "c", 1), ("deposit", 1, "a", 5)])
        self.refuse(world, ("ask", "a", 1), "TooMuch", available=0)
        world.do_all([("send", 1, 0), ("arrive", 1, 0, 0)])
        self.refuse(world, ("ask", "a", 6), "TooMuch", available=5)
        self.assertEqual(world.do(("ask", "a", 5)), 2)

    def test_ask_counts_no_request_that_is_barred_in_the_keepers_view(self):
        world = World(Forest(ABC))
        world.do_all([("join", "a", 5), ("deposit", 0, "a", 6), ("send", 0, 1), ("arrive", 0, 1, 0), ("ask", "a", 2)])
        world.do_all([("send", 0, 1), ("arrive", 0, 1, 0)])
        self.assertIn(("refuse", 2, 1), world.spender(1).view.facts)
        self.refuse(world, ("ask", "a", 5), "TooMuch", available=4)
        world.do_all([("send", 1, 0), ("arrive", 1, 0, 0)])
        self.refuse(world, ("ask", "a", 7), "TooMuch", available=6)
        self.assertEqual(world.do(("ask", "a", 6)), 3)

    def test_release(self):
        world = small_world()
        self.refuse(world, ("release", 1, 4), "TooMuch", available=3)
        world.do(("arrive", 0, 1, 0))
        self.assertEqual(world.spent, [3, 0])
        for amount in (1, LARGEST):
            self.refuse(world, ("release", 1, amount), "TooMuch", available=0)
        self.assertEqual(world.do(("release", 3, 3)), 3)
        self.refuse(world, ("release", 3, 2), "TooMuch", available=1)


class TestMessages(ErrorCase):
    def test_facts_that_the_node_does_not_know(self):
        world = small_world()
        good = [DEPOSIT, ("spender", 1, "a", 3), ("request", 2, "a", 2)]
        unknown = [("deposit", 1, "a", 6), ("deposit", 2, "a", 5), ("withdrawn", 2), ("consent", 2, 1), ("release", 1, 1),
                   ("spender", True, "a", 3), ("deposit", True, "a", 5), ("request", 2, "b", 2)]
        for value in NO_FACTS + unknown:
            for index in range(4):
                facts = tuple(good[:index] + [value] + good[index:])
                self.refuse(world, ("tell", 0, 1, facts), "InvalidFact", index=index)
                self.refuse(world, ("tell", 0, 1, facts[:index + 1] + (None,)), "InvalidFact", index=index)

    def test_what_another_node_knows(self):
        world = small_world()
        self.refuse(world, ("tell", 1, 0, (("spender", 1, "a", 3), DEPOSIT)), "InvalidFact", index=1)
        self.refuse(world, ("tell", 3, 1, (("spender", 1, "a", 3),)), "InvalidFact", index=0)
        self.assertIsNone(world.do(("tell", 3, 1, (("spender", 3, "b", 4),))))

    def test_facts_that_are_no_tuple(self):
        world = small_world()
        for value in NO_NAMES + ["a", DEPOSIT[0], [DEPOSIT], {DEPOSIT: True}]:
            if not isinstance(value, tuple):
                self.refuse(world, ("tell", 0, 1, value), "InvalidFact", index=0)
        # A fact by itself is a tuple of what are no facts.
        self.refuse(world, ("tell", 0, 1, DEPOSIT), "InvalidFact", index=0)

    def test_facts_to_a_full_link(self):
        world = small_world()
        for _ in range(4):
            world.do(("send", 0, 1))
        self.refuse(world, ("tell", 0, 1, (("withdrawn", 2),)), "InvalidFact", index=0)

    def test_what_is_no_index(self):
        world = small_world()
        self.assertEqual(len(world.link(0, 1)), 2)
        for word in ("arrive", "lose", "copy"):
            for value in NO_INDICES:
                self.refuse(world, (word, 0, 1, value), "InvalidMessage", index=value)
            for value in (0, 1, -1, None):
                self.refuse(world, (word, 1, 0, value), "InvalidMessage", index=value)
                self.refuse(world, (word, 3, 1, value), "InvalidMessage", index=value)

    def test_the_last_index(self):
        for word in ("arrive", "lose", "copy"):
            world = small_world()
            world.do((word, 0, 1, 1))
            self.assertEqual(len(world.link(0, 1)), 3 if word == "copy" else 1)


class TestWithdrawals(ErrorCase):
    def test_what_is_no_request(self):
        world = small_world()
        for value in NO_INTS + [0, -1, 1, 3, 4, 5, 20, 21, 10 ** 30, -10 ** 30]:
            self.refuse(world, ("withdraw", value), "UnknownRequest", value=value)
        for value in NO_STRINGS:
            if value != 2:
                self.refuse(world, ("withdraw", value), "UnknownRequest", value=value)

    def test_missing_consents(self):
        world = World(Forest(ABC))
        world.do_all([("join", "a", 3), ("join", "a", 3), ("deposit", 0, "a", 9), ("ask", "a", 1), ("join", "a", 1)])
        world.do_all([("ask", "a", 2), ("join", "a", 3)])
        self.refuse(world, ("withdraw", 3), "MissingConsent", places=(1, 2))
        self.refuse(world, ("withdraw", 5), "MissingConsent", places=(1, 2, 4))
        world.do_all([("send", 0, 2), ("arrive", 0, 2, 0), ("send", 2, 1)])
        # A consent that the keeper does not know is missing.
        self.refuse(world, ("withdraw", 3), "MissingConsent", places=(1, 2))
        world.do_all([("send", 2, 0), ("arrive", 2, 0, 0)])
        self.refuse(world, ("withdraw", 3), "MissingConsent", places=(1,))
        self.refuse(world, ("withdraw", 5), "MissingConsent", places=(1, 4))
        world.do_all([("arrive", 2, 1, 0), ("send", 1, 0), ("arrive", 1, 0, 0)])
        self.refuse(world, ("withdraw", 5), "MissingConsent", places=(4,))
        self.assertIsNone(world.do(("withdraw", 3)))

    def test_a_request_that_was_withdrawn(self):
        world = World(Forest(ABC))
        world.do_all([("deposit", 0, "a", 5), ("ask", "a", 2), ("ask", "a", 1), ("withdraw", 2)])
        self.refuse(world, ("withdraw", 2), "UnknownRequest", value=2)
        self.assertIsNone(world.do(("withdraw", 1)))
        self.refuse(world, ("withdraw", 1), "UnknownRequest", value=1)
        self.assertEqual(world.balances["a"], 2)

    def test_a_request_that_is_barred_in_the_keepers_view(self):
        world = World(Forest(ABC))
        world.do_all([("join", "a", 5), ("join", "a", 5), ("deposit", 0, "a", 6), ("send", 0, 1), ("arrive", 0, 1, 0)])
        world.do_all([("ask", "a", 2), ("send", 0, 1), ("arrive", 0, 1, 0), ("send", 1, 0)])
        self.refuse(world, ("withdraw", 3), "MissingConsent", places=(1, 2))
        world.do(("arrive", 1, 0, 0))
        self.refuse(world, ("withdraw", 3), "UnknownRequest", value=3)


if __name__ == "__main__":
    unittest.main()
