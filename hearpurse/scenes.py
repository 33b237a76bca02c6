"""Scenes: the nodes of a world, the messages between them, and the facts that were made."""

from hearpurse.facts import ROWS
from hearpurse.names import is_int
from hearpurse.spenders import Spender
from hearpurse.views import View, twin_of

KEEPER = 0


class Scene:
    """What a world holds beside its log. Its methods act without asking whether the document allows it."""

    def __init__(self, forest, rule):
        self._forest = forest
        self._rule = rule
        self._keeper = View(forest)
        self._spenders = {}
        self._links = {}
        self._made = []

    def twin(self):
        """Return an independent copy."""
        other = Scene(self._forest, self._rule)
        other._keeper = self._keeper.twin()
        other._spenders = {place: spender.twin() for place, spender in self._spenders.items()}
        other._links = {pair: list(messages) for pair, messages in self._links.items()}
        other._made = list(self._made)
        return other

    def all_made(self):
        """Return the list of the pairs (maker, fact) of all facts, in the order in which they were made."""
        return list(self._made)

    def made_of(self, kind):
        """Return the list of the facts of this kind, in the order in which they were made."""
        return [fact for _, fact in self._made if fact[0] == kind]

    def rows_made(self):
        """Return the list of the rows of the roll."""
        return [fact for _, fact in self._made if fact[0] in ROWS]

    def all_nodes(self):
        """Return the list of all nodes, ascending."""
        return [KEEPER] + list(self._spenders)

    def all_spent(self):
        """Return the list of what the spenders have spent, in order of rank."""
        return [spender.spent for spender in self._spenders.values()]

    def is_spender(self, value):
        """Tell whether the value is the place of a spender."""
        return is_int(value) and value in self._spenders

    def is_node(self, value):
        """Tell whether the value is the keeper or the place of a spender."""
        return self.is_spender(value) or (is_int(value) and value == KEEPER)

    def spender_at(self, place):
        """Return the spender itself."""
        return self._spenders[place]

    def view_of(self, node):
        """Return a copy of what the node knows."""
        if node == KEEPER:
            return twin_of(self._keeper)
        return self._spenders[node].view

    def teach(self, node, facts):
        """Let the node learn the facts; return what a spender did, or what was new to the keeper."""
        if node == KEEPER:
            return self._keeper.learn(*facts)
        done = self._spenders[node].learn(*facts)
        self._made.extend([(node, fact) for fact in done if fact[0] != "spend"])
        return done

    def add_row(self, kind, account, amount):
        """Make the next row of the roll; return its place."""
        place = len(self.rows_made()) + 1
        row = (kind, place, account, amount)
        self._made.append((KEEPER, row))
        self._keeper.learn(row)
        if kind == "spender":
            self._spenders[place] = Spender(self._forest, row, rule=self._rule)
        return place

    def add_deposit(self, node, account, amount):
        """Make a deposit, which the node learns; return its mark."""
        mark = len(self.made_of("deposit")) + 1
        fact = ("deposit", mark, account, amount)
        self._made.append((node, fact))
        self.teach(node, (fact,))
        return mark

    def add_release(self, place, amount):
        """Let the spender give up so much of its claim; return the total of the release."""
        fact = self._spenders[place].release(amount)
        self._made.append((place, fact))
        return fact[2]

    def add_withdrawal(self, request):
        """Withdraw the amount of the request."""
        fact = ("withdrawn", request)
        self._made.append((KEEPER, fact))
        self._keeper.learn(fact)

    def messages(self, node, to):
        """Return the list of the messages of the link."""
        return list(self._links.get((node, to), ()))

    def put(self, node, to, message):
        """Add the message to the link, last."""
        self._links[(node, to)] = self.messages(node, to) + [message]

    def drop(self, node, to, index):
        """Take the message at this index from the link."""
        del self._links[(node, to)][index]

    def settle(self):
        """Let all nodes send all to each other until no view changes; return the number of rounds."""
        rounds = 0
        before = []
        while before != self._sizes():
            before = self._sizes()
            self._deliver_all()
            self._send_all()
            self._deliver_all()
            rounds += 1
        return rounds

    def _sizes(self):
        """Return how many facts each node knows; as no view loses facts, this tells whether one has changed."""
        return [len(self.view_of(node)) for node in self.all_nodes()]

    def _pairs(self):
        """Return the list of the pairs (node, to) of all links, ascending."""
        nodes = self.all_nodes()
        return [(node, to) for node in nodes for to in nodes if node != to]

    def _deliver_all(self):
        for node, to in self._pairs():
            messages = self.messages(node, to)
            self._links[(node, to)] = []
            for message in messages:
                self.teach(to, message)

    def _send_all(self):
        for node, to in self._pairs():
            self.put(node, to, tuple(self.view_of(node).facts))
