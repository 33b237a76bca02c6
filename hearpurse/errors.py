"""The errors of hearpurse.

An error with a field is created with the value of the field, keeps this very value,
and shows it as its message. The other errors are created with a message.
"""


class PurseError(ValueError):
    """The base class of all errors of hearpurse."""


class InvalidForest(PurseError):
    """The rows are those of no forest."""


class UnknownAccount(PurseError):
    """The forest has no account of this name."""

    def __init__(self, name):
        self.name = name


class InvalidText(PurseError):
    """The text is wrong at this line."""

    def __init__(self, line):
        self.line = line


class InvalidClaims(PurseError):
    """The value is no list of claims."""


class InvalidSpent(PurseError):
    """The value is no list of what was spent."""


class InvalidBalances(PurseError):
    """The value is no dict of balances, or holds no amounts of money."""


class InvalidRank(PurseError):
    """The value is no rank, or no number that fits it."""


class TooMany(PurseError):
    """There are more than this limit allows."""

    def __init__(self, limit):
        self.limit = limit


class InvalidFact(PurseError):
    """The argument at this index is no fact that can be taken."""

    def __init__(self, index):
        self.index = index


class InvalidPlace(PurseError):
    """The value is no place that fits here."""

    def __init__(self, value):
        self.value = value


class UnknownRule(PurseError):
    """There is no such rule."""


class TooMuch(PurseError):
    """Only this amount is available."""

    def __init__(self, available):
        self.available = available


class UnknownNode(PurseError):
    """There is no such node, or it does not fit here."""

    def __init__(self, node):
        self.node = node


class InvalidMessage(PurseError):
    """The link has no message at this index."""

    def __init__(self, index):
        self.index = index


class UnknownRequest(PurseError):
    """The value is not the place of an open request."""

    def __init__(self, value):
        self.value = value


class MissingConsent(PurseError):
    """The consents of the spenders at these places are missing."""

    def __init__(self, places):
        self.places = places


class InvalidAction(PurseError):
    """The action at this index cannot be done."""

    def __init__(self, index):
        self.index = index
