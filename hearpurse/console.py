"""The console: a world that is led by lines of text."""

from hearpurse.audit import audit, books_of
from hearpurse.entitlements import overdrawn, totals
from hearpurse.errors import PurseError, UnknownAccount
from hearpurse.facts import fact_text, is_number
from hearpurse.forests import Forest, read_row
from hearpurse.missing import missing
from hearpurse.names import is_name
from hearpurse.scenes import KEEPER
from hearpurse.worlds import World

MOST_DIGITS = 12

# What stands behind the first word of a line that is not the line of an account.
PARTS = {
    "join": ("name", "number"),
    "ask": ("name", "number"),
    "deposit": ("number", "name", "number"),
    "release": ("number", "number"),
    "send": ("number", "number"),
    "arrive": ("number", "number", "number"),
    "lose": ("number", "number", "number"),
    "copy": ("number", "number", "number"),
    "withdraw": ("number",),
    "spent": (),
    "ideal": (),
    "total": ("name",),
    "missing": ("number",),
    "knows": ("number",),
    "settle": (),
    "over": (),
    "audit": (),
}


def fits(part, word):
    """Tell whether the word may stand where a line has this part."""
    if part == "name":
        return is_name(word)
    return word == "0" or is_number(word, MOST_DIGITS)


def read_line(line):
    """Return the first word and the parts of a line, as the tuple of an action, or None if it has no such form."""
    words = line.split(" ")
    if words[0] not in PARTS or len(words) != len(PARTS[words[0]]) + 1:
        return None
    parts = PARTS[words[0]]
    if not all([fits(part, word) for part, word in zip(parts, words[1:])]):
        return None
    read = [word if part == "name" else int(word) for part, word in zip(parts, words[1:])]
    return (words[0], *read)


def is_account(line):
    """Tell whether the line is the line of an account."""
    row = read_row(line)
    return row is not None and is_name(row[0]) and (row[1] is None or is_name(row[1]))


def listed(texts, between):
    """Return the texts in one line, or "-" if there are none."""
    return between.join(texts) if len(texts) > 0 else "-"


def tell_result(world, words):
    """Do an action and tell what it returns."""
    return str(world.do(words))


def tell_ok(world, words):
    """Do an action."""
    world.do(words)
    return "ok"


def tell_done(world, words):
    """Let a message arrive and tell what was done, or how much was new to the keeper."""
    result = world.do(words)
    if words[2] == KEEPER:
        return str(len(result))
    return listed([f"{thing[0]} {thing[1]}" for thing in result], ", ")


def tell_spent(world, words):
    """Tell what the spenders have spent."""
    return listed([str(number) for number in world.spent], " ")


def tell_ideal(world, words):
    """Tell the entitlements of the actual state."""
    return listed([str(number) for number in world.ideal], " ")


def tell_total(world, words):
    """Tell the actual total of an account."""
    found = totals(world.forest, world.balances)
    if words[1] not in found:
        raise UnknownAccount(words[1])
    return str(found[words[1]])


def tell_missing(world, words):
    """Tell the sets of missing facts of a spender."""
    sets = missing(world, words[1])
    if sets is None:
        return "none"
    return " / ".join([listed([fact_text(fact) for fact in facts], ", ") for facts in sets])


def tell_knows(world, words):
    """Tell how many facts a node knows."""
    view = world.keeper if words[1] == KEEPER else world.spender(words[1]).view
    return str(len(view))


def tell_settle(world, words):
    """Settle the world and tell the number of rounds."""
    return str(world.settle())


def tell_over(world, words):
    """Tell the first overdrawn account."""
    over = overdrawn(world.forest, world.claims, world.spent, world.balances)
    return "none" if over is None else over


def tell_audit(world, words):
    """Tell the word of the first flaw of the books."""
    flaw = audit(books_of(world))
    return "ok" if flaw is None else flaw[0]


TELLERS = {
    "join": tell_result,
    "ask": tell_result,
    "deposit": tell_ok,
    "release": tell_ok,
    "send": tell_ok,
    "arrive": tell_done,
    "lose": tell_ok,
    "copy": tell_ok,
    "withdraw": tell_ok,
    "spent": tell_spent,
    "ideal": tell_ideal,
    "total": tell_total,
    "missing": tell_missing,
    "knows": tell_knows,
    "settle": tell_settle,
    "over": tell_over,
    "audit": tell_audit,
}


class Console:
    """Accounts, and a world as soon as a line needs it."""

    def __init__(self):
        self._rows = []
        self._world = None

    def say(self, line):
        """Return the answer to a line."""
        if not isinstance(line, str):
            return "what"
        try:
            return self._answer(line)
        except PurseError as problem:
            name = problem.__class__.__name__
            return f"refused {name.lower()}"

    def _answer(self, line):
        if is_account(line):
            return self._add_account(read_row(line))
        words = read_line(line)
        if words is None:
            return "what"
        if self._world is None:
            # Without an account there is no forest, and so no world.
            self._world = World(Forest(self._rows))
        teller = TELLERS[words[0]]
        return teller(self._world, words)

    def _add_account(self, row):
        if self._world is not None:
            return "what"
        rows = self._rows + [row]
        Forest(rows)
        self._rows = rows
        return "ok"


def answers(text):
    """Return the list of the answers of a new console to the lines of a text."""
    console = Console()
    return [console.say(line) for line in text.split("\n") if line != ""]
