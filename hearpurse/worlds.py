"""Worlds: a keeper and spenders that send each other messages."""

from hearpurse.entitlements import grants
from hearpurse.errors import InvalidAction, InvalidBalances, InvalidFact, InvalidMessage, MissingConsent, PurseError
from hearpurse.errors import TooMany, TooMuch, UnknownAccount, UnknownNode, UnknownRequest, UnknownRule
from hearpurse.names import is_amount, is_int
from hearpurse.rules import CORRECT, RULES
from hearpurse.scenes import KEEPER, Scene

MOST_ROWS = 20
MOST_DEPOSITS = 60

# What stands behind the first word of an action.
PARTS = {
    "join": ("account", "amount"),
    "ask": ("account", "amount"),
    "deposit": ("node", "account", "amount"),
    "release": ("spender", "amount"),
    "tell": ("node", "to", "facts"),
    "send": ("node", "to"),
    "arrive": ("node", "to", "index"),
    "lose": ("node", "to", "index"),
    "copy": ("node", "to", "index"),
    "withdraw": ("request",),
}


def parts_of(action):
    """Return a dict of the parts of an action, by what they are."""
    if not isinstance(action, tuple) or len(action) == 0:
        raise InvalidAction(0)
    word = action[0]
    if not isinstance(word, str) or word not in PARTS or len(action) != len(PARTS[word]) + 1:
        raise InvalidAction(0)
    return dict(zip(PARTS[word], action[1:]))


def check_link(scene, node, to):
    """Raise UnknownNode unless these are two different nodes."""
    for value in (node, to):
        if not scene.is_node(value):
            raise UnknownNode(value)
    if node == to:
        raise UnknownNode(to)


def check_parts(scene, forest, parts):
    """Raise an error unless the nodes, the account and the amount of an action are what they must be."""
    if "to" in parts:
        check_link(scene, parts["node"], parts["to"])
    elif "node" in parts and not scene.is_node(parts["node"]):
        raise UnknownNode(parts["node"])
    if "spender" in parts and not scene.is_spender(parts["spender"]):
        raise UnknownNode(parts["spender"])
    if "account" in parts and parts["account"] not in forest.names:
        raise UnknownAccount(parts["account"])
    if "amount" in parts and not is_amount(parts["amount"]):
        raise InvalidBalances("a claim or an amount is no amount")


def free_money(view, account):
    """Return the known deposits of the account itself, less its known requests that are not barred."""
    return view.funds_without(view.open_requests())[account]


def is_waiting(view, value):
    """Tell whether the value is the place of a request that is neither withdrawn nor barred."""
    return view.is_request(value) and not view.is_barred(value) and not view.knows(("withdrawn", value))


def missing_consents(view, request):
    """Return the tuple of the places of the spenders ahead of the request whose consent is unknown."""
    ahead = view.spenders_to(request)
    return tuple([place for place in ahead if not view.knows(("consent", request, place))])


def add_row(scene, kind, parts):
    """Make a row of the roll; return its place."""
    if len(scene.rows_made()) >= MOST_ROWS:
        raise TooMany(MOST_ROWS)
    if kind == "request":
        available = free_money(scene.view_of(KEEPER), parts["account"])
        if parts["amount"] > available:
            raise TooMuch(available)
    return scene.add_row(kind, parts["account"], parts["amount"])


def do_join(scene, parts):
    """Make the row of a spender; return its place."""
    return add_row(scene, "spender", parts)


def do_ask(scene, parts):
    """Make the row of a request; return its place."""
    return add_row(scene, "request", parts)


def do_deposit(scene, parts):
    """Make a deposit; return its mark."""
    if len(scene.made_of("deposit")) >= MOST_DEPOSITS:
        raise TooMany(MOST_DEPOSITS)
    return scene.add_deposit(parts["node"], parts["account"], parts["amount"])


def do_release(scene, parts):
    """Give up a part of a claim; return the total of the release."""
    return scene.add_release(parts["spender"], parts["amount"])


def post(scene, parts, message):
    """Add the message to the link, or lose it if the link is full."""
    if len(scene.messages(parts["node"], parts["to"])) < World.CAPACITY:
        scene.put(parts["node"], parts["to"], message)


def message_at(scene, parts):
    """Return the message of the link at the index of the action."""
    messages = scene.messages(parts["node"], parts["to"])
    index = parts["index"]
    if not is_int(index) or not 0 <= index < len(messages):
        raise InvalidMessage(index)
    return messages[index]


def do_tell(scene, parts):
    """Send a message with facts that the node knows."""
    if not isinstance(parts["facts"], tuple):
        raise InvalidFact(0)
    view = scene.view_of(parts["node"])
    for index, fact in enumerate(parts["facts"]):
        if not view.knows(fact):
            raise InvalidFact(index)
    post(scene, parts, parts["facts"])


def do_send(scene, parts):
    """Send a message with all facts that the node knows."""
    post(scene, parts, tuple(scene.view_of(parts["node"]).facts))


def do_arrive(scene, parts):
    """Take a message from its link and teach its facts; return what the node did with them."""
    message = message_at(scene, parts)
    scene.drop(parts["node"], parts["to"], parts["index"])
    return scene.teach(parts["to"], message)


def do_lose(scene, parts):
    """Take a message from its link."""
    message_at(scene, parts)
    scene.drop(parts["node"], parts["to"], parts["index"])


def do_copy(scene, parts):
    """Send a message of the link once more."""
    post(scene, parts, message_at(scene, parts))


def do_withdraw(scene, parts):
    """Withdraw the amount of a request."""
    request = parts["request"]
    keeper = scene.view_of(KEEPER)
    if not is_waiting(keeper, request):
        raise UnknownRequest(request)
    places = missing_consents(keeper, request)
    if len(places) > 0:
        raise MissingConsent(places)
    scene.add_withdrawal(request)


EFFECTS = {
    "join": do_join,
    "ask": do_ask,
    "deposit": do_deposit,
    "release": do_release,
    "tell": do_tell,
    "send": do_send,
    "arrive": do_arrive,
    "lose": do_lose,
    "copy": do_copy,
    "withdraw": do_withdraw,
}


def perform(scene, forest, action):
    """Do one action and return its result; if it raises an error, the scene does not change."""
    parts = parts_of(action)
    check_parts(scene, forest, parts)
    effect = EFFECTS[action[0]]
    return effect(scene, parts)


class World:
    """A keeper, spenders, and links between them."""

    CAPACITY = 6

    def __init__(self, forest, *, rule=CORRECT):
        if rule not in RULES:
            raise UnknownRule("there is no such rule")
        self._forest = forest
        self._rule = rule
        self._scene = Scene(forest, rule)
        self._actions = []
        self._log = []

    def twin(self):
        """Return an independent copy."""
        other = World(self._forest, rule=self._rule)
        other._scene = self._scene.twin()
        other._actions = list(self._actions)
        other._log = list(self._log)
        return other

    def do(self, action):
        """Do one action and return its result."""
        call = self._begin()
        try:
            result = perform(self._scene, self._forest, action)
            self._actions.append(action)
            return result
        finally:
            self._log.append(("end", call))

    def do_all(self, actions):
        """Do all actions or none; return the list of their results."""
        call = self._begin()
        try:
            return self._do_each(actions)
        finally:
            self._log.append(("end", call))

    def _begin(self):
        """Note in the log that a call begins; return its number."""
        # Each call before has two entries.
        call = len(self._log) // 2 + 1
        self._log.append(("begin", call))
        return call

    def _do_each(self, actions):
        if not isinstance(actions, (list, tuple)):
            raise InvalidAction(0)
        trial = self._scene.twin()
        results = []
        for index, action in enumerate(actions):
            try:
                results.append(perform(trial, self._forest, action))
            except PurseError:
                raise InvalidAction(index) from None
        self._scene = trial
        self._actions.extend(list(actions))
        return results

    def settle(self):
        """Let all nodes send all to each other until no view changes; return the number of rounds."""
        return self._scene.settle()

    def spender(self, place):
        """Return a copy of the spender at this place."""
        if not self._scene.is_spender(place):
            raise UnknownNode(place)
        return self._scene.spender_at(place).twin()

    def link(self, node, to):
        """Return the list of the messages of the link."""
        check_link(self._scene, node, to)
        return self._scene.messages(node, to)

    @property
    def forest(self):
        """The forest, as given."""
        return self._forest

    @property
    def rule(self):
        """The rule of the spenders, as given."""
        return self._rule

    @property
    def nodes(self):
        """The list of the keeper, 0, and the places of the spenders."""
        return self._scene.all_nodes()

    @property
    def keeper(self):
        """A copy of the view of the keeper."""
        return self._scene.view_of(KEEPER)

    @property
    def log(self):
        """The list of the beginnings and ends of the calls of do and do_all."""
        return list(self._log)

    @property
    def actions(self):
        """The list of the actions that were done."""
        return list(self._actions)

    @property
    def made(self):
        """The list of the pairs (maker, fact) of all facts that were made."""
        return self._scene.all_made()

    @property
    def spent(self):
        """The list of what the spenders have spent."""
        return self._scene.all_spent()

    @property
    def claims(self):
        """The list of the claims of the spenders, less their releases."""
        # The last release of a spender has the greatest total.
        given_up = {fact[1]: fact[2] for fact in self._scene.made_of("release")}
        rows = self._scene.made_of("spender")
        return [(row[2], row[3] - given_up.get(row[1], 0)) for row in rows]

    @property
    def balances(self):
        """A dict of the deposits of each account, less the amounts withdrawn."""
        found = {name: 0 for name in self._forest.names}
        for fact in self._scene.made_of("deposit"):
            found[fact[2]] = found[fact[2]] + fact[3]
        requests = {row[1]: row for row in self._scene.made_of("request")}
        for fact in self._scene.made_of("withdrawn"):
            row = requests[fact[1]]
            found[row[2]] = found[row[2]] - row[3]
        return found

    @property
    def ideal(self):
        """The list of the entitlements by the claims and the balances."""
        return grants(self._forest, self.claims, self.balances)
