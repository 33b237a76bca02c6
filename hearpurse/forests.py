"""Forests: accounts that may lie inside other accounts."""

from hearpurse.errors import InvalidForest, InvalidText, UnknownAccount
from hearpurse.names import is_name


def is_row(value, earlier):
    """Tell whether the value is a pair (name, parent) that may follow the rows with the earlier names."""
    if not isinstance(value, tuple) or len(value) != 2:
        return False
    name, parent = value
    if not is_name(name) or name in earlier:
        return False
    return parent is None or parent in earlier


def first_wrong(rows):
    """Return the index of the first item that is no row where it stands, or the number of items."""
    # A list, as a parent may be a value that cannot be a key of a dict.
    earlier = []
    for at, row in enumerate(rows):
        if not is_row(row, earlier):
            return at
        earlier.append(row[0])
    return len(rows)


def read_row(line):
    """Return the pair of words that the line has for (name, parent), or None if it has no such form."""
    words = line.split(" ")
    if words[0] != "account":
        return None
    if len(words) == 2:
        return (words[1], None)
    if len(words) == 4 and words[2] == "in":
        return (words[1], words[3])
    return None


def row_text(name, parent):
    """Return the line of one account."""
    if parent is None:
        return f"account {name}\n"
    return f"account {name} in {parent}\n"


class Forest:
    """Accounts, each of which may lie inside an earlier one. A forest never changes."""

    MOST = 8

    def __init__(self, rows):
        if not isinstance(rows, (list, tuple)):
            raise InvalidForest("the rows are no list")
        if len(rows) < 1 or len(rows) > Forest.MOST:
            raise InvalidForest("the number of rows is not from 1 to 8")
        if first_wrong(rows) < len(rows):
            raise InvalidForest("a row is no pair of a new name and None or an earlier name")
        self._parents = {name: parent for name, parent in rows}

    def __eq__(self, other):
        return isinstance(other, Forest) and self._parents == other._parents

    @property
    def names(self):
        """The tuple of the names, in the order of the rows."""
        return tuple(self._parents)

    @property
    def text(self):
        """The lines of all accounts."""
        return "".join([row_text(name, parent) for name, parent in self._parents.items()])

    def ancestors(self, name):
        """Return the list of the account, its parent, the parent's parent and so on."""
        # The names are a tuple, so that a value that cannot be a key of a dict is refused as well.
        if name not in self.names:
            raise UnknownAccount(name)
        found = [name]
        above = self._parents[name]
        while above is not None:
            found.append(above)
            above = self._parents[above]
        return found

    def subtree(self, name):
        """Return the list of the account and all accounts inside it, in the order of the names."""
        if name not in self.names:
            raise UnknownAccount(name)
        return [inner for inner in self.names if name in self.ancestors(inner)]

    @staticmethod
    def parse(text):
        """Return the forest that has this text."""
        if not isinstance(text, str):
            raise InvalidText(0)
        lines = text.split("\n")
        # What stands behind the last line feed is a line only if there is something.
        rest = lines.pop()
        if rest != "":
            lines.append(rest)
        rows = [read_row(line) for line in lines]
        wrong = first_wrong(rows)
        if wrong < len(rows) or rest != "":
            raise InvalidText(wrong)
        return Forest(rows)
