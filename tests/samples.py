"""What several tests use: values of all kinds, rows of forests, and what the document says of claims and balances.

The functions that begin with "model" say it as plainly as the document does, whatever time it takes.
"""

import itertools


def nested(depth, inner, wrap):
    """Return the inner value, wrapped as many times as depth says."""
    for _ in range(depth):
        inner = wrap(inner)
    return inner


NO_STRINGS = [
    None, True, False, 0, 1, 2, -1, 10 ** 9, 10 ** 30,
    [], ["a"], ["a", None], [[]], [None], [("a", None)],
    (), ("a",), ("a", None), (None,), (("a", None),), ([],), ({},),
    {}, {"a": None}, {"a": "a"}, {"a": []}, {1: 2}, {("a", None): True},
    nested(18, "a", lambda inner: [inner]),
    nested(18, "a", lambda inner: (inner,)),
    nested(18, "a", lambda inner: {"a": inner}),
]

NO_NAMES = NO_STRINGS + [
    "", " ", "\n", "A", "Z", "1", "_", "-", "`", "{", "a ", " a", "a b", "a\n", "\na", "aB", "a1", "a-b",
    "abcdefghi", "abcdefghijklmnop", "abcdefgH", "account a", "a in b",
]

NO_INTS = [value for value in NO_NAMES if isinstance(value, bool) or not isinstance(value, int)] + ["a", "10", "None"]

NAMES = ["a", "bb", "purse", "account", "in", "zzzzzzzz", "g", "abcdefgh", "i"]

ABC = [("a", None), ("b", "a"), ("c", "a")]
FLAT = [(name, None) for name in NAMES]
CHAIN = list(zip(NAMES, [None] + NAMES))

# Not in the order of a walk from parent to child, so that the order of the rows shows.
MIXED = [("a", None), ("b", "a"), ("r", None), ("c", "a"), ("d", "b"), ("s", "r"), ("e", "c"), ("f", "b")]

SHAPES = [
    [("a", None)],
    [("a", None), ("b", None)],
    [("b", None), ("a", None)],
    [("a", None), ("b", "a")],
    [("z", None), ("a", "z")],
    [("a", None), ("b", "a"), ("c", "a")],
    [("a", None), ("b", "a"), ("c", "b")],
    [("a", None), ("b", None), ("c", "a"), ("d", "b"), ("e", "c")],
    [("in", None), ("account", "in"), ("none", "account")],
    FLAT[:8],
    CHAIN[:8],
    MIXED,
]


def all_rows(many):
    """Return the rows of every forest of so many accounts."""
    names = NAMES[:many]
    choices = [[None] + names[:at] for at in range(many)]
    return [list(zip(names, parents)) for parents in itertools.product(*choices)]


def above(rows, name):
    """Return what the ancestors of the account must be."""
    parents = dict(rows)
    found = []
    while name is not None:
        found.append(name)
        name = parents[name]
    return found


def inside(rows, name):
    """Return what the subtree of the account must be."""
    return [inner for inner, _ in rows if name in above(rows, inner)]


class Mixed:
    """Numbers that look mixed, and are the same each time."""

    def __init__(self, seed):
        self.state = seed

    def below(self, many):
        self.state = (self.state * 6364136223846793005 + 1442695040888963407) % 2 ** 64
        return (self.state >> 33) % many

    def one_of(self, values):
        return values[self.below(len(values))]


FORESTS = [rows for many in range(1, 5) for rows in all_rows(many)] + SHAPES


def cases(many, seed, most_claims=5, most=5):
    """Yield so many triples (rows, claims, balances) of small forests and small numbers."""
    mixed = Mixed(seed)
    for _ in range(many):
        rows = mixed.one_of(FORESTS)
        names = [name for name, _ in rows]
        claims = [(mixed.one_of(names), mixed.below(most + 1)) for _ in range(mixed.below(most_claims + 1))]
        balances = {name: mixed.below(most + 1) for name in names if mixed.below(4) > 0}
        yield rows, claims, balances


def model_totals(rows, balances):
    return {name: sum([balances.get(inner, 0) for inner in inside(rows, name)]) for name, _ in rows}


def model_used(rows, claims, spent, name):
    """Return what the claims that count at this account have spent, up to the last number of spent."""
    return sum([number for (account, _), number in zip(claims, spent) if name in above(rows, account)])


def model_overdrawn(rows, claims, spent, balances):
    sums = model_totals(rows, balances)
    for name, _ in rows:
        if model_used(rows, claims, spent, name) > sums[name]:
            return name
    return None


def model_tight(rows, claims, spent, balances, rank):
    """Return the ancestors of the account of this rank that are tight at it."""
    sums = model_totals(rows, balances)
    ancestors = above(rows, claims[rank][0])
    return [name for name in ancestors if model_used(rows, claims, spent[:rank + 1], name) == sums[name]]


def model_entitlements(rows, claims, balances):
    """Try every number from the claim downwards."""
    found = []
    for _, claim in claims:
        number = claim
        while model_overdrawn(rows, claims, found + [number], balances) is not None:
            number -= 1
        found.append(number)
    return found


def model_certificate(rows, claims, balances):
    result = model_entitlements(rows, claims, balances)
    return [
        None if result[rank] == claim else model_tight(rows, claims, result, balances, rank)[0]
        for rank, (_, claim) in enumerate(claims)
    ]


# Facts of a forest with accounts a and b: of each kind several, many of which conflict.
PLACES = [1, 2, 3]
ANSWERS = [(word, request, spender) for word in ("consent", "refuse") for request, spender in ((2, 1), (3, 1), (3, 2))]

EVERY_FACT = (
    [("spender", place, account, claim) for place in PLACES for account in "ab" for claim in (1, 2)]
    + [("request", place, account, amount) for place in PLACES for account in "ab" for amount in (1, 2)]
    + [("deposit", mark, account, amount) for mark in PLACES for account in "ab" for amount in (1, 2)]
    + [("release", place, total) for place in PLACES for total in (1, 2)]
    + ANSWERS
    + [("withdrawn", place) for place in PLACES]
)


def is_against(one, other):
    """Tell whether the two facts conflict, for two different facts in this order of their kinds."""
    match one, other:
        case ("spender" | "request", place, _, _), ("spender" | "request", beside, _, _):
            return place == beside
        case ("deposit", mark, _, _), ("deposit", beside, _, _):
            return mark == beside
        case ("consent", request, spender), ("refuse", beside, by):
            return request == beside and spender == by
        case ("release", place, _), ("request", beside, _, _):
            return place == beside
        case ("consent" | "refuse", request, _), ("spender", place, _, _):
            return request == place
        case ("consent" | "refuse", _, spender), ("request", place, _, _):
            return spender == place
        case ("withdrawn", request), ("spender", place, _, _):
            return request == place
    return False
