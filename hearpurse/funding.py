"""Funding plans: which balances pay for what the claims have spent."""

from hearpurse.entitlements import check_balances, check_claims, check_spent, first_overdrawn, is_rank
from hearpurse.names import is_int


def pay(left, names, due):
    """Take what is due from what is left in these accounts, in their order; return the pairs (account, part)."""
    pairs = []
    for name in names:
        part = min(left[name], due)
        if part > 0:
            left[name] -= part
            due -= part
            pairs.append((name, part))
    return pairs


def make_plan(forest, claims, spent, balances):
    """Return a plan, for claims by which no account is overdrawn."""
    left = {name: balances.get(name, 0) for name in forest.names}
    plan = []
    # Claims of inner accounts are paid first, as they may use fewer balances than those of the accounts around them.
    # An inner account stands behind the accounts around it, so the names are taken from behind.
    for account in reversed(forest.names):
        inner = forest.subtree(account)
        for rank, (owner, _) in enumerate(claims):
            if owner == account:
                plan.extend([(rank, name, part) for name, part in pay(left, inner, spent[rank])])
    return tuple(sorted(plan))


def is_triple(forest, claims, value):
    """Tell whether the value says that an account which the claim of a rank may use pays a part of it."""
    if not isinstance(value, tuple) or len(value) != 3:
        return False
    rank, account, part = value
    if not is_rank(claims, rank) or account not in forest.subtree(claims[rank][0]):
        return False
    return is_int(part) and part >= 1


def is_list_of_parts(forest, claims, value):
    """Tell whether the value is an ascending tuple of triples with no pair (rank, account) twice."""
    if not isinstance(value, tuple) or not all([is_triple(forest, claims, triple) for triple in value]):
        return False
    pairs = [(rank, account) for rank, account, _ in value]
    return pairs == sorted(set(pairs))


def fund(forest, claims, spent, balances):
    """Return ("paid", plan), or ("over", account) with the first overdrawn account."""
    check_claims(forest, claims)
    check_spent(claims, spent)
    check_balances(forest, balances)
    over = first_overdrawn(forest, claims, spent, balances)
    if over is not None:
        return ("over", over)
    return ("paid", make_plan(forest, claims, spent, balances))


def is_plan(forest, claims, spent, balances, value):
    """Tell whether the value is a plan that pays exactly what was spent, and no more than the balances."""
    check_claims(forest, claims)
    check_spent(claims, spent)
    check_balances(forest, balances)
    if not is_list_of_parts(forest, claims, value):
        return False
    due = list(spent)
    left = {name: balances.get(name, 0) for name in forest.names}
    for rank, account, part in value:
        due[rank] -= part
        left[account] -= part
    return all([number == 0 for number in due]) and all([balance >= 0 for balance in left.values()])
