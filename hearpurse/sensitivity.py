"""Sensitivity: how the entitlements change with more money or with a smaller claim."""

from itertools import combinations

from hearpurse.entitlements import check_balances, check_claims, grants, is_rank
from hearpurse.errors import InvalidBalances, InvalidRank, TooMany
from hearpurse.names import is_amount, is_int

MOST_EXTRA = 12


def is_deposit(forest, value):
    """Tell whether the value is a pair of an account and an amount."""
    if not isinstance(value, tuple) or len(value) != 2:
        return False
    account, amount = value
    return account in forest.names and is_amount(amount)


def check_extra(forest, extra):
    """Raise InvalidBalances unless these are extra deposits."""
    if not isinstance(extra, (list, tuple)):
        raise InvalidBalances("the extra deposits are no list")
    if not all([is_deposit(forest, pair) for pair in extra]):
        raise InvalidBalances("an extra deposit is no pair of an account and an amount")


def check_rank(claims, rank):
    """Raise InvalidRank unless this is the rank of a claim."""
    if not is_rank(claims, rank):
        raise InvalidRank("there is no claim of this rank")


def raised_by(balances, extra):
    """Return the balances together with the extra deposits."""
    raised = dict(balances)
    for account, amount in extra:
        raised[account] = raised.get(account, 0) + amount
    return raised


def growth(before, after):
    """Return by how much each number grows."""
    return [new - old for old, new in zip(before, after)]


def minimal_sets(many, is_enough):
    """Return the minimal ascending tuples of indices below many that are enough; smaller ones first."""
    found = []
    # The sets that hold an enough one: they are not minimal, and need not be tried.
    covered = {}
    for size in range(many + 1):
        for chosen in combinations(range(many), size):
            smaller = [chosen[:at] + chosen[at + 1:] for at in range(size)]
            if any([part in covered for part in smaller]):
                covered[chosen] = True
            elif is_enough(chosen):
                covered[chosen] = True
                found.append(chosen)
    return found


def gains(forest, claims, balances, extra):
    """Return by how much each entitlement grows with the extra deposits."""
    check_claims(forest, claims)
    check_balances(forest, balances)
    check_extra(forest, extra)
    before = grants(forest, claims, balances)
    return growth(before, grants(forest, claims, raised_by(balances, extra)))


def release_effect(forest, claims, balances, rank, less):
    """Return by how much each entitlement grows if the claim of this rank is smaller by less."""
    check_claims(forest, claims)
    check_balances(forest, balances)
    check_rank(claims, rank)
    account, claim = claims[rank]
    if not is_int(less) or not 0 <= less <= claim:
        raise InvalidRank("the claim cannot be smaller by this")
    smaller = list(claims)
    smaller[rank] = (account, claim - less)
    return growth(grants(forest, claims, balances), grants(forest, smaller, balances))


def minimal_deposits(forest, claims, balances, extra, rank, amount):
    """Return the minimal sets of extra deposits, by their indices, that raise this entitlement to the amount."""
    check_claims(forest, claims)
    check_balances(forest, balances)
    check_extra(forest, extra)
    if len(extra) > MOST_EXTRA:
        raise TooMany(MOST_EXTRA)
    check_rank(claims, rank)
    if not is_int(amount) or amount < 0:
        raise InvalidRank("the amount is no integer from 0 on")

    def is_enough(chosen):
        raised = raised_by(balances, [extra[at] for at in chosen])
        return grants(forest, claims, raised)[rank] >= amount

    return minimal_sets(len(extra), is_enough)
