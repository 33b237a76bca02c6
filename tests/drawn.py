"""Worlds that look drawn by lot, and are the same each time."""

from hearpurse.errors import PurseError
from hearpurse.forests import Forest
from hearpurse.worlds import World
from tests.samples import ABC, CHAIN

ROWS = [ABC, [("a", None)], CHAIN[:3], [("a", None), ("b", None), ("c", "b")]]

# How often each word is drawn.
WORDS = (
    ["join"] * 3 + ["ask"] * 3 + ["deposit"] * 4 + ["release"] * 2 + ["tell"] * 6 + ["send"] * 6 + ["arrive"] * 14
    + ["lose"] + ["copy"] * 2 + ["withdraw"] * 3
)

WITHOUT_REQUESTS = [word for word in WORDS if word not in ("ask", "withdraw")]


def view_of(world, node):
    return world.keeper if node == 0 else world.spender(node).view


def some_of(mixed, facts):
    return tuple(fact for fact in facts if mixed.below(3) > 0)


def draw_action(mixed, world, words=WORDS, most_spenders=4):
    """Return an action that has the right form. It may still raise an error, but mostly does not."""
    names = world.forest.names
    nodes = world.nodes
    if len(nodes) < 3:
        return ("join", mixed.one_of(names), 1 + mixed.below(9))
    word = mixed.one_of(words)
    if word == "join" and len(nodes) > most_spenders:
        word = "deposit"
    node, to = mixed.one_of(nodes), mixed.one_of(nodes)
    if word in ("arrive", "lose", "copy"):
        full = [(one, other) for one in nodes for other in nodes if one != other and world.link(one, other)]
        if full:
            node, to = mixed.one_of(full)
            return (word, node, to, mixed.below(len(world.link(node, to))))
        word = "send"
    if word in ("join", "ask"):
        return (word, mixed.one_of(names), 1 + mixed.below(9 if word == "join" else 4))
    if word == "deposit":
        return (word, node, mixed.one_of(names), 1 + mixed.below(6))
    if word == "release":
        return (word, mixed.one_of(nodes[1:]), 1 + mixed.below(3))
    if word == "withdraw":
        requests = [fact[1] for _, fact in world.made if fact[0] == "request"]
        return (word, mixed.one_of(requests) if requests else 1)
    if word == "send":
        return (word, node, to)
    return ("tell", node, to, some_of(mixed, view_of(world, node).facts))


def draw_world(mixed, steps, *, rule="correct", words=WORDS, most_spenders=4, most_facts=60, settles=20):
    """Return a world in which up to so many drawn actions were done, and which was settled now and then."""
    world = World(Forest(mixed.one_of(ROWS)), rule=rule)
    for _ in range(steps):
        action = draw_action(mixed, world, words, most_spenders)
        # A roll of 20 rows and 60 deposits are tested elsewhere.
        if action[0] in ("join", "ask", "deposit") and len(world.made) > most_facts:
            continue
        try:
            world.do(action)
        except PurseError:
            pass
        if mixed.below(settles) == 0:
            world.settle()
    return world
