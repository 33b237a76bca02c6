"""What the document says of views, spenders and worlds, said as plainly as there, whatever time it takes.

A view is a set of facts here. The functions and classes take the rows of a forest, not the forest.
"""

from tests.samples import above, is_against, model_entitlements

LARGEST = 10 ** 9


def clash(one, other):
    """Tell whether two facts conflict."""
    return one != other and (is_against(one, other) or is_against(other, one))


def row_of(facts, place):
    for fact in facts:
        if fact[0] in ("spender", "request") and fact[1] == place:
            return fact
    return None


def gap_of(facts, place):
    missing = [ahead for ahead in range(1, place) if row_of(facts, ahead) is None]
    return missing[0] if missing else None


def is_barred(facts, request):
    return any(fact[0] == "refuse" and fact[1] == request for fact in facts)


def released_of(facts, place):
    return max([fact[2] for fact in facts if fact[0] == "release" and fact[1] == place], default=0)


def claim_of(facts, place):
    return max(0, row_of(facts, place)[3] - released_of(facts, place))


def seniors_of(facts, place):
    return [row for row in sorted(facts) if row[0] == "spender" and row[1] < place]


def is_allowed(facts, place, request):
    if is_barred(facts, request):
        return False
    return request < place or ("consent", request, place) in facts


def funds_of(rows, facts, place, is_counted=lambda request: True):
    """Return what the place counts on in each account, by those requests that are counted."""
    found = {}
    for name, _ in rows:
        money = sum(fact[3] for fact in facts if fact[0] == "deposit" and fact[2] == name)
        for fact in facts:
            if fact[0] == "request" and fact[2] == name and is_allowed(facts, place, fact[1]) and is_counted(fact[1]):
                money -= fact[3]
        found[name] = max(0, money)
    return found


def quick_entitlements(rows, claims, balances):
    """The entitlements again, for numbers that are too great to try them all."""
    totals = {name: 0 for name, _ in rows}
    for account, balance in balances.items():
        for name in above(rows, account):
            totals[name] += balance
    found = []
    for account, claim in claims:
        found.append(min([claim] + [totals[name] for name in above(rows, account)]))
        for name in above(rows, account):
            totals[name] -= found[-1]
    return found


def entitlements_of(rows, claims, balances):
    if sum(claim for _, claim in claims) < 100:
        return model_entitlements(rows, claims, balances)
    return quick_entitlements(rows, claims, balances)


def entitlement_of(rows, facts, place):
    row = row_of(facts, place)
    if row is None or row[0] != "spender" or gap_of(facts, place) is not None:
        return None
    claims = [(each[2], claim_of(facts, each[1])) for each in seniors_of(facts, place) + [row]]
    return entitlements_of(rows, claims, funds_of(rows, facts, place))[-1]


def by_rule(rows, facts, place, rule, spends):
    """Return the entitlement of a spender as it computes it itself."""
    if rule in ("correct", "glad") or (rule == "free" and not spends):
        found = entitlement_of(rows, facts, place)
        return 0 if found is None else found
    if rule == "gap":
        # The rows behind a gap move up, so that none is missing.
        seen = [row for row in seniors_of(facts, place) + [row_of(facts, place)]]
        claims = [(row[2], claim_of(facts, row[1])) for row in seen]
        return entitlements_of(rows, claims, funds_of(rows, facts, place))[-1]
    if gap_of(facts, place) is not None:
        return 0
    claims = []
    for row in seniors_of(facts, place):
        claim = claim_of(facts, row[1])
        if rule == "poor":
            claim = claim // 2
        if rule == "deaf" and any(fact[0] == "refuse" and fact[2] == row[1] for fact in facts):
            claim = 0
        claims.append((row[2], claim))
    claims.append((row_of(facts, place)[2], claim_of(facts, place)))
    counted = {
        "free": lambda request: request < place,
        "late": lambda request: request > place,
    }.get(rule, lambda request: True)
    return entitlements_of(rows, claims, funds_of(rows, facts, place, counted))[-1]


class PlainSpender:
    def __init__(self, rows, row, rule="correct"):
        self.rows = rows
        self.row = row
        self.place = row[1]
        self.rule = rule
        self.facts = {row}
        self.spent = 0
        self.log = []

    def learn(self, *facts):
        new = []
        for fact in facts:
            if fact not in self.facts:
                self.facts.add(fact)
                new.append(fact)
        self.log.append(("learned", tuple(new)))
        done = []
        for fact in sorted(self.facts):
            if fact[0] == "request" and fact[1] > self.place and not is_barred(self.facts, fact[1]):
                if ("consent", fact[1], self.place) not in self.facts:
                    done.append(self.answer(fact[1]))
                    self.facts.add(done[-1])
        more = by_rule(self.rows, self.facts, self.place, self.rule, True) - self.spent
        if more > 0:
            self.spent += more
            done.append(("spend", more))
        self.log.extend(done)
        return done

    def answer(self, request):
        supposed = self.facts | {("consent", request, self.place)}
        if self.rule == "glad" or by_rule(self.rows, supposed, self.place, self.rule, False) >= self.spent:
            return ("consent", request, self.place)
        return ("refuse", request, self.place)

    def available(self):
        return claim_of(self.facts, self.place) - self.spent

    def release(self, amount):
        fact = ("release", self.place, released_of(self.facts, self.place) + amount)
        self.facts.add(fact)
        self.log.append(fact)
        return fact


class PlainWorld:
    """A world to which only actions of the right form are handed; do returns ("error", name, field) for an error."""

    def __init__(self, rows, rule="correct"):
        self.rows = rows
        self.rule = rule
        self.keeper = set()
        self.spenders = {}
        self.links = {}
        self.made = []

    def nodes(self):
        return [0] + sorted(self.spenders)

    def facts(self, node):
        return self.keeper if node == 0 else self.spenders[node].facts

    def teach(self, node, facts):
        if node == 0:
            new = []
            for fact in facts:
                if fact not in self.keeper:
                    self.keeper.add(fact)
                    new.append(fact)
            return new
        done = self.spenders[node].learn(*facts)
        self.made += [(node, fact) for fact in done if fact[0] != "spend"]
        return done

    def wrong_part(self, action):
        """Return the error for a node, an account or an amount, or None."""
        word = action[0]
        nodes = action[1:3] if word in ("tell", "send", "arrive", "lose", "copy") else action[1:2]
        if word in ("deposit", "release", "tell", "send", "arrive", "lose", "copy"):
            for node in nodes:
                if type(node) is not int or node not in self.nodes() or (word == "release" and node == 0):
                    return ("error", "UnknownNode", node)
            if len(nodes) == 2 and nodes[0] == nodes[1]:
                return ("error", "UnknownNode", nodes[1])
        account = {"join": 1, "ask": 1, "deposit": 2}.get(word)
        if account is not None and action[account] not in [name for name, _ in self.rows]:
            return ("error", "UnknownAccount", action[account])
        amount = action[-1]
        if word in ("join", "ask", "deposit", "release"):
            if type(amount) is not int or not 1 <= amount <= LARGEST:
                return ("error", "InvalidBalances", None)
        return None

    def do(self, action):
        wrong = self.wrong_part(action)
        if wrong is not None:
            return wrong
        word, rest = action[0], action[1:]
        return getattr(self, "do_" + word)(*rest)

    def next_place(self):
        return 1 + len([fact for _, fact in self.made if fact[0] in ("spender", "request")])

    def do_join(self, account, claim):
        place = self.next_place()
        if place > 20:
            return ("error", "TooMany", 20)
        row = ("spender", place, account, claim)
        self.made.append((0, row))
        self.keeper.add(row)
        self.spenders[place] = PlainSpender(self.rows, row, self.rule)
        return place

    def do_ask(self, account, amount):
        place = self.next_place()
        if place > 20:
            return ("error", "TooMany", 20)
        known = self.keeper
        available = sum(fact[3] for fact in known if fact[0] == "deposit" and fact[2] == account)
        for fact in known:
            if fact[0] == "request" and fact[2] == account and not is_barred(known, fact[1]):
                available -= fact[3]
        if amount > available:
            return ("error", "TooMuch", available)
        row = ("request", place, account, amount)
        self.made.append((0, row))
        self.keeper.add(row)
        return place

    def do_deposit(self, node, account, amount):
        mark = 1 + len([fact for _, fact in self.made if fact[0] == "deposit"])
        if mark > 60:
            return ("error", "TooMany", 60)
        fact = ("deposit", mark, account, amount)
        self.made.append((node, fact))
        self.teach(node, [fact])
        return mark

    def do_release(self, place, amount):
        spender = self.spenders[place]
        if amount > spender.available():
            return ("error", "TooMuch", spender.available())
        fact = spender.release(amount)
        self.made.append((place, fact))
        return fact[2]

    def queue(self, node, to):
        return self.links.setdefault((node, to), [])

    def post(self, node, to, facts):
        if len(self.queue(node, to)) < 6:
            self.queue(node, to).append(tuple(facts))

    def do_tell(self, node, to, facts):
        if type(facts) is not tuple:
            return ("error", "InvalidFact", 0)
        for index, fact in enumerate(facts):
            if repr(fact) not in [repr(known) for known in self.facts(node)]:
                return ("error", "InvalidFact", index)
        self.post(node, to, facts)

    def do_send(self, node, to):
        self.post(node, to, sorted(self.facts(node)))

    def wrong_index(self, node, to, index):
        return type(index) is not int or index not in range(len(self.queue(node, to)))

    def do_arrive(self, node, to, index):
        if self.wrong_index(node, to, index):
            return ("error", "InvalidMessage", index)
        return self.teach(to, self.queue(node, to).pop(index))

    def do_lose(self, node, to, index):
        if self.wrong_index(node, to, index):
            return ("error", "InvalidMessage", index)
        self.queue(node, to).pop(index)

    def do_copy(self, node, to, index):
        if self.wrong_index(node, to, index):
            return ("error", "InvalidMessage", index)
        self.post(node, to, self.queue(node, to)[index])

    def do_withdraw(self, request):
        row = row_of(self.keeper, request) if type(request) is int else None
        if row is None or row[0] != "request" or is_barred(self.keeper, request):
            return ("error", "UnknownRequest", request)
        if ("withdrawn", request) in self.keeper:
            return ("error", "UnknownRequest", request)
        ahead = [place for place in sorted(self.spenders) if place < request]
        missing = tuple(place for place in ahead if ("consent", request, place) not in self.keeper)
        if missing:
            return ("error", "MissingConsent", missing)
        self.made.append((0, ("withdrawn", request)))
        self.keeper.add(("withdrawn", request))

    def pairs(self):
        return [(node, to) for node in self.nodes() for to in self.nodes() if node != to]

    def deliver(self):
        for node, to in self.pairs():
            for facts in self.links.pop((node, to), []):
                self.teach(to, facts)

    def settle(self):
        rounds = 0
        while True:
            rounds += 1
            before = {node: set(self.facts(node)) for node in self.nodes()}
            self.deliver()
            for node, to in self.pairs():
                self.do_send(node, to)
            self.deliver()
            if before == {node: self.facts(node) for node in self.nodes()}:
                return rounds

    def spent(self):
        return [self.spenders[place].spent for place in sorted(self.spenders)]

    def claims(self):
        return [
            (spender.row[2], spender.row[3] - released_of(spender.facts, place))
            for place, spender in sorted(self.spenders.items())
        ]

    def balances(self):
        made = [fact for _, fact in self.made]
        found = {}
        for name, _ in self.rows:
            money = sum(fact[3] for fact in made if fact[0] == "deposit" and fact[2] == name)
            gone = [fact[1] for fact in made if fact[0] == "withdrawn"]
            money -= sum(fact[3] for fact in made if fact[0] == "request" and fact[2] == name and fact[1] in gone)
            found[name] = money
        return found

    def ideal(self):
        return entitlements_of(self.rows, self.claims(), self.balances())
