"""Exploration: all states that a small world may reach, and how each faulty rule overdraws an account."""

from hearpurse.entitlements import overdrawn
from hearpurse.errors import PurseError, TooMany, UnknownRule
from hearpurse.forests import Forest
from hearpurse.rules import CORRECT, RULES

# For each faulty rule, actions of which the last one overdraws the only account.
EXAMPLES = {
    # The junior spends all, as the unknown row of the senior does not exist for it.
    "gap": (
        ("join", "a", 3), ("join", "a", 4), ("deposit", 2, "a", 4),
        ("tell", 2, 1, (("deposit", 1, "a", 4),)), ("arrive", 2, 1, 0),
    ),
    # The spender consents to the withdrawal of what it has spent.
    "glad": (
        ("join", "a", 4), ("deposit", 0, "a", 4), ("send", 0, 1), ("arrive", 0, 1, 0), ("ask", "a", 4),
        ("send", 0, 1), ("arrive", 0, 1, 0), ("send", 1, 0), ("arrive", 1, 0, 0), ("withdraw", 2),
    ),
    # The spender consents first, and then spends what it gave away.
    "free": (
        ("join", "a", 4), ("deposit", 0, "a", 4), ("ask", "a", 4), ("send", 0, 1), ("arrive", 0, 1, 0),
        ("send", 1, 0), ("arrive", 1, 0, 0), ("withdraw", 2),
    ),
    # The spender spends what was withdrawn ahead of it.
    "late": (
        ("deposit", 0, "a", 4), ("ask", "a", 4), ("withdraw", 1),
        ("join", "a", 4), ("send", 0, 2), ("arrive", 0, 2, 0),
    ),
    # The junior leaves only half of its claim to the senior, which has spent all of it.
    "poor": (
        ("join", "a", 4), ("join", "a", 4), ("deposit", 1, "a", 4), ("send", 1, 0), ("arrive", 1, 0, 0),
        ("send", 0, 2), ("arrive", 0, 2, 0),
    ),
    # The junior leaves nothing to the senior, which has refused a request as it has spent all.
    "deaf": (
        ("join", "a", 4), ("join", "a", 4), ("deposit", 0, "a", 4), ("send", 0, 1), ("arrive", 0, 1, 0),
        ("ask", "a", 4), ("send", 0, 1), ("arrive", 0, 1, 0), ("send", 1, 2), ("arrive", 1, 2, 0),
    ),
}


class State:
    """A world, how many of the actions were tried, and the steps that led there."""

    def __init__(self, world, tried, steps):
        self.world = world
        self.tried = tried
        self.steps = steps

    def likeness(self):
        """Return a value that two states share if and only if they are the same."""
        nodes = self.world.nodes
        spenders = [self.world.spender(place) for place in nodes[1:]]
        facts = [tuple(self.world.keeper.facts)] + [tuple(spender.view.facts) for spender in spenders]
        links = [tuple(self.world.link(node, to)) for node in nodes for to in nodes if node != to]
        return (self.tried, tuple(facts), tuple(self.world.spent), tuple(links))

    def arrivals(self):
        """Return the list of the steps by which a message arrives."""
        nodes = self.world.nodes
        pairs = [(node, to) for node in nodes for to in nodes if node != to]
        return [(node, to, index) for node, to in pairs for index in range(len(self.world.link(node, to)))]


def after_arrival(state, step):
    """Return the state behind the arrival of a message."""
    world = state.world.twin()
    world.do(("arrive",) + step)
    return State(world, state.tried, state.steps + [step])


def after_try(state, actions):
    """Return the state behind the try of the next action."""
    world = state.world.twin()
    tried = state.tried + 1
    try:
        world.do(actions[state.tried])
    except PurseError:
        # The rest is dropped too.
        tried = len(actions)
    return State(world, tried, state.steps + [None])


def next_states(state, actions):
    """Return the list of the states that are one step away."""
    found = [after_arrival(state, step) for step in state.arrivals()]
    if state.tried < len(actions):
        found.append(after_try(state, actions))
    return found


def visit(world, actions, limit):
    """Yield all reachable states, the nearest first, or raise TooMany instead of one more than the limit."""
    first = State(world.twin(), 0, [])
    seen = {first.likeness(): True}
    wave = [first]
    many = 0
    while len(wave) > 0:
        following = []
        for state in wave:
            if many == limit:
                raise TooMany(limit)
            many += 1
            yield state
            for new in next_states(state, actions):
                mark = new.likeness()
                if mark not in seen:
                    seen[mark] = True
                    following.append(new)
        wave = following


def is_over(world):
    """Tell whether an account is overdrawn in the actual state."""
    return overdrawn(world.forest, world.claims, world.spent, world.balances) is not None


def reachable(world, *, actions=(), limit=1000):
    """Yield a pair (distance, spent) for each reachable state, in ascending order of distance."""
    for state in visit(world, actions, limit):
        yield (len(state.steps), state.world.spent)


def explore(world, *, actions=(), limit=1000):
    """Return a dict that tells of all reachable states together."""
    states = 0
    steps = None
    ends = {}
    for state in visit(world, actions, limit):
        states += 1
        if steps is None and is_over(state.world):
            steps = list(state.steps)
        if state.tried == len(actions) and len(state.arrivals()) == 0:
            ends[tuple(state.world.spent)] = True
    return {"states": states, "overdrawn": steps, "ends": len(ends)}


def example(rule):
    """Return a forest, and actions of which the last one overdraws an account in a world with this faulty rule."""
    if rule not in RULES or rule == CORRECT:
        raise UnknownRule("there is no such faulty rule")
    return (Forest([("a", None)]), list(EXAMPLES[rule]))
