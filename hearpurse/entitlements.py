"""Entitlements: how much each claim may spend, in order of rank, and how this is shown."""

from hearpurse.errors import InvalidBalances, InvalidClaims, InvalidSpent
from hearpurse.names import is_amount, is_int

MOST_CLAIMS = 20
MOST_BALANCE = 10 ** 12


def is_claim(forest, value):
    """Tell whether the value is a pair of an account and 0 or an amount."""
    if not isinstance(value, tuple) or len(value) != 2:
        return False
    account, claim = value
    return account in forest.names and is_int(claim) and (claim == 0 or is_amount(claim))


def check_claims(forest, claims):
    """Raise InvalidClaims unless these are claims."""
    if not isinstance(claims, (list, tuple)):
        raise InvalidClaims("the claims are no list")
    if len(claims) > MOST_CLAIMS:
        raise InvalidClaims("there are more than 20 claims")
    if not all([is_claim(forest, pair) for pair in claims]):
        raise InvalidClaims("a claim is no pair of an account and 0 or an amount")


def check_spent(claims, spent):
    """Raise InvalidSpent unless this is what the claims may have spent."""
    if not isinstance(spent, (list, tuple)):
        raise InvalidSpent("what was spent is no list")
    if len(spent) != len(claims):
        raise InvalidSpent("there is not one number per claim")
    if not all([is_int(number) and number >= 0 for number in spent]):
        raise InvalidSpent("a number is no integer from 0 on")


def check_balances(forest, balances):
    """Raise InvalidBalances unless these are balances."""
    if not isinstance(balances, dict):
        raise InvalidBalances("the balances are no dict")
    for account, balance in balances.items():
        if account not in forest.names:
            raise InvalidBalances("a balance belongs to no account")
        if not is_int(balance) or not 0 <= balance <= MOST_BALANCE:
            raise InvalidBalances("a balance is no integer from 0 to 10 ** 12")


def is_rank(claims, value):
    """Tell whether the value is the rank of a claim."""
    return is_int(value) and 0 <= value < len(claims)


def totals_of(forest, balances):
    """Return the totals of all accounts, for balances of any size."""
    found = {name: 0 for name in forest.names}
    for account, balance in balances.items():
        for name in forest.ancestors(account):
            found[name] = found[name] + balance
    return found


def unspent(forest, claims, spent, balances):
    """Return how much more the claims that count at each account could spend; below 0 where it is overdrawn."""
    left = totals_of(forest, balances)
    for (account, _), amount in zip(claims, spent):
        for name in forest.ancestors(account):
            left[name] -= amount
    return left


def first_overdrawn(forest, claims, spent, balances):
    """Return the first overdrawn account, or None."""
    left = unspent(forest, claims, spent, balances)
    for name in forest.names:
        if left[name] < 0:
            return name
    return None


def grants(forest, claims, balances):
    """Return the entitlements, for balances of any size."""
    left = dict(totals_of(forest, balances))
    found = []
    for account, claim in claims:
        above = forest.ancestors(account)
        granted = min([claim] + [left[name] for name in above])
        for name in above:
            left[name] = left[name] - granted
        found.append(granted)
    return found


def tight_above(forest, claims, spent, balances):
    """Return, per rank, the list of the ancestors of its account that are tight at this rank."""
    left = totals_of(forest, balances)
    found = []
    for (account, _), amount in zip(claims, spent):
        above = forest.ancestors(account)
        for name in above:
            left[name] -= amount
        found.append([name for name in above if left[name] == 0])
    return found


def is_result(claims, value):
    """Tell whether the value is a list with one integer from 0 to the claim per claim."""
    if not isinstance(value, list) or len(value) != len(claims):
        return False
    return all([is_int(number) and 0 <= number <= claim for (_, claim), number in zip(claims, value)])


def is_witness(claims, result, tight, value):
    """Tell whether the value is a list that has None where a claim is met, and a tight account where it is not."""
    if not isinstance(value, list) or len(value) != len(claims):
        return False
    for rank, (_, claim) in enumerate(claims):
        if result[rank] == claim:
            if value[rank] is not None:
                return False
        elif value[rank] not in tight[rank]:
            return False
    return True


def totals(forest, balances):
    """Return a dict of the totals of all accounts, in the order of the names."""
    check_balances(forest, balances)
    return totals_of(forest, balances)


def overdrawn(forest, claims, spent, balances):
    """Return the first overdrawn account in the order of the names, or None."""
    check_claims(forest, claims)
    check_spent(claims, spent)
    check_balances(forest, balances)
    return first_overdrawn(forest, claims, spent, balances)


def entitlements(forest, claims, balances):
    """Return the list of the entitlements, in order of rank."""
    check_claims(forest, claims)
    check_balances(forest, balances)
    return grants(forest, claims, balances)


def certificate(forest, claims, balances):
    """Return, per claim, None if it is met, or the first ancestor of its account that is tight at its rank."""
    check_claims(forest, claims)
    check_balances(forest, balances)
    granted = grants(forest, claims, balances)
    tight = tight_above(forest, claims, granted, balances)
    return [None if granted[rank] == claim else tight[rank][0] for rank, (_, claim) in enumerate(claims)]


def shows_entitlements(forest, claims, balances, result, witness):
    """Tell whether the witness shows that the result is the list of the entitlements."""
    check_claims(forest, claims)
    check_balances(forest, balances)
    if not is_result(claims, result):
        return False
    if first_overdrawn(forest, claims, result, balances) is not None:
        return False
    return is_witness(claims, result, tight_above(forest, claims, result, balances), witness)
