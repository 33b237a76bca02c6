"""Missing facts: the sets of unknown facts that would let a spender spend as much as all of them."""

from hearpurse.errors import TooMany
from hearpurse.facts import ROWS
from hearpurse.sensitivity import minimal_sets

MOST_MISSING = 12


def is_considered(fact, place):
    """Tell whether the fact may let the spender at this place spend more."""
    if fact[0] in ROWS or fact[0] == "release":
        return fact[1] < place
    return fact[0] in ("deposit", "refuse")


def spent_after(spender, facts):
    """Return what the spender would have spent after learning these facts, all at once."""
    trial = spender.twin()
    trial.learn(*facts)
    return trial.spent


def missing(world, place):
    """Return None if the spender has spent its ideal, otherwise the list of the minimal sets of missing facts."""
    spender = world.spender(place)
    rank = world.nodes.index(place) - 1
    if spender.spent == world.ideal[rank]:
        return None
    view = spender.view
    facts = sorted([fact for _, fact in world.made if is_considered(fact, place) and not view.knows(fact)])
    if len(facts) > MOST_MISSING:
        raise TooMany(MOST_MISSING)
    most = spent_after(spender, facts)

    def is_enough(chosen):
        return spent_after(spender, [facts[at] for at in chosen]) == most

    return [tuple([facts[at] for at in chosen]) for chosen in minimal_sets(len(facts), is_enough)]
