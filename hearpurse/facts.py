"""Facts: the rows of the roll, and what is known of deposits, releases, answers and withdrawals."""

from hearpurse.errors import InvalidText
from hearpurse.names import is_amount, is_int

LAST_PLACE = 20
LAST_MARK = 999

# What stands behind the first word of a fact.
PARTS = {
    "spender": ("place", "account", "amount"),
    "request": ("place", "account", "amount"),
    "deposit": ("mark", "account", "amount"),
    "release": ("place", "amount"),
    "consent": ("place", "place"),
    "refuse": ("place", "place"),
    "withdrawn": ("place",),
}

ROWS = ("spender", "request")
ANSWERS = ("consent", "refuse")

DIGITS = "0123456789"
MOST_DIGITS = 10


def is_place(value):
    """Tell whether the value is a place of the roll."""
    return is_int(value) and 1 <= value <= LAST_PLACE


def is_part(part, value, forest):
    """Tell whether the value may stand where a fact has this part."""
    if part == "account":
        return value in forest.names
    if part == "amount":
        return is_amount(value)
    if part == "mark":
        return is_int(value) and 1 <= value <= LAST_MARK
    return is_place(value)


def is_fact(value, forest):
    """Tell whether the value is a fact."""
    if not isinstance(value, tuple) or len(value) == 0:
        return False
    kind = value[0]
    if not isinstance(kind, str) or kind not in PARTS:
        return False
    parts = PARTS[kind]
    if len(value) != len(parts) + 1:
        return False
    if not all([is_part(part, value[at], forest) for at, part in enumerate(parts, start=1)]):
        return False
    # A spender answers only the requests behind it.
    return kind not in ANSWERS or value[2] < value[1]


def supposed_rows(fact):
    """Return the list of the pairs (kind, place) of the rows that a fact other than a row supposes."""
    kind = fact[0]
    if kind == "release":
        return [("spender", fact[1])]
    if kind == "withdrawn":
        return [("request", fact[1])]
    if kind in ANSWERS:
        return [("request", fact[1]), ("spender", fact[2])]
    return []


def contradicts(row, fact):
    """Tell whether the fact supposes a row of the other kind at the place of this row."""
    return any([place == row[1] and kind != row[0] for kind, place in supposed_rows(fact)])


def slot(fact):
    """Return what only one of the facts of a view may have, or None if the fact leaves room for others."""
    kind = fact[0]
    if kind in ROWS:
        return ("row", fact[1])
    if kind == "deposit":
        return ("deposit", fact[1])
    if kind in ANSWERS:
        return ("answer", fact[1], fact[2])
    return None


def do_conflict(one, other):
    """Tell whether the two facts of one forest conflict."""
    if one == other:
        return False
    if slot(one) is not None and slot(one) == slot(other):
        return True
    if one[0] in ROWS:
        return contradicts(one, other)
    return other[0] in ROWS and contradicts(other, one)


def fact_text(fact):
    """Return the parts of a fact, separated by one space."""
    return " ".join([str(part) for part in fact])


def is_number(word, most):
    """Tell whether the word is a number from 1 on, of at most so many digits, without leading zeros."""
    if len(word) < 1 or len(word) > most or word[0] == "0":
        return False
    return all([digit in DIGITS for digit in word])


def parse_fact(text, forest):
    """Return the fact that has this text."""
    if not isinstance(text, str):
        raise InvalidText(0)
    fact = tuple([int(word) if is_number(word, MOST_DIGITS) else word for word in text.split(" ")])
    if not is_fact(fact, forest):
        raise InvalidText(0)
    return fact
