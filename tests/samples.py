"""What several tests use: values of all kinds, and rows of forests."""

import itertools


def nested(depth, inner, wrap):
    """Return the inner value, wrapped as many times as depth says."""
    for _ in range(depth):
        inner = wrap(inner)
    return inner


NO_STRINGS = [
    None, True, False, 0, 1, 2, -1, 10 ** 9, 10 ** 30,
    [], ["a"], ["a", None], [[]], [None], [("a", None)],
    (), ("a",), ("a", None), (None,), (("a", None),), ([],), ({},),
    {}, {"a": None}, {"a": "a"}, {"a": []}, {1: 2}, {("a", None): True},
    nested(18, "a", lambda inner: [inner]),
    nested(18, "a", lambda inner: (inner,)),
    nested(18, "a", lambda inner: {"a": inner}),
]

NO_NAMES = NO_STRINGS + [
    "", " ", "\n", "A", "Z", "1", "_", "-", "`", "{", "a ", " a", "a b", "a\n", "\na", "aB", "a1", "a-b",
    "abcdefghi", "abcdefghijklmnop", "abcdefgH", "account a", "a in b",
]

NAMES = ["a", "bb", "purse", "account", "in", "zzzzzzzz", "g", "abcdefgh", "i"]

FLAT = [(name, None) for name in NAMES]
CHAIN = list(zip(NAMES, [None] + NAMES))

# Not in the order of a walk from parent to child, so that the order of the rows shows.
MIXED = [("a", None), ("b", "a"), ("r", None), ("c", "a"), ("d", "b"), ("s", "r"), ("e", "c"), ("f", "b")]

SHAPES = [
    [("a", None)],
    [("a", None), ("b", None)],
    [("b", None), ("a", None)],
    [("a", None), ("b", "a")],
    [("z", None), ("a", "z")],
    [("a", None), ("b", "a"), ("c", "a")],
    [("a", None), ("b", "a"), ("c", "b")],
    [("a", None), ("b", None), ("c", "a"), ("d", "b"), ("e", "c")],
    [("in", None), ("account", "in"), ("none", "account")],
    FLAT[:8],
    CHAIN[:8],
    MIXED,
]


def all_rows(many):
    """Return the rows of every forest of so many accounts."""
    names = NAMES[:many]
    choices = [[None] + names[:at] for at in range(many)]
    return [list(zip(names, parents)) for parents in itertools.product(*choices)]
