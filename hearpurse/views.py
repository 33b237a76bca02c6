"""Views: the facts that one node knows, and what follows from them."""

from hearpurse.entitlements import grants
from hearpurse.errors import InvalidFact, InvalidPlace
from hearpurse.facts import LAST_PLACE, ROWS, contradicts, is_fact, is_place, slot, supposed_rows


class Notes:
    """Facts that do not conflict, kept by what is asked of them."""

    def __init__(self):
        self.known = {}
        self.taken = {}
        self.supposed = {}
        self.released = {}
        self.deposited = {}

    def twin(self):
        """Return an independent copy."""
        other = Notes()
        other.known = {fact: True for fact in self.known}
        other.taken = {held: self.taken[held] for held in self.taken}
        other.supposed = {pair: True for pair in self.supposed}
        other.released = dict(self.released)
        other.deposited = dict(self.deposited)
        return other

    def row_at(self, place):
        """Return the row of the roll at this place, or None."""
        return self.taken.get(("row", place))

    def rules_out(self, fact):
        """Tell whether the fact conflicts with one of these."""
        # A fact without a slot finds none taken, as None is never kept as one.
        if self.taken.get(slot(fact), fact) != fact:
            return True
        if fact[0] in ROWS:
            return any([kind != fact[0] and (kind, fact[1]) in self.supposed for kind in ROWS])
        rows = [self.row_at(place) for _, place in supposed_rows(fact)]
        return any([row is not None and contradicts(row, fact) for row in rows])

    def take(self, fact):
        """Keep the fact, which is new and conflicts with none of these."""
        self.known[fact] = True
        if slot(fact) is not None:
            self.taken[slot(fact)] = fact
        for pair in supposed_rows(fact):
            self.supposed[pair] = True
        if fact[0] == "release":
            self.released[fact[1]] = max(fact[2], self.released.get(fact[1], 0))
        if fact[0] == "deposit":
            self.deposited[fact[2]] = self.deposited.get(fact[2], 0) + fact[3]


def check_place(value):
    """Raise InvalidPlace unless this is a place of the roll."""
    if not is_place(value):
        raise InvalidPlace(value)


class View:
    """The facts that one node knows, at first none."""

    def __init__(self, forest):
        self._forest = forest
        self._notes = Notes()

    def __eq__(self, other):
        return isinstance(other, View) and self._forest == other._forest and self._notes.known == other._notes.known

    def __len__(self):
        return len(self._notes.known)

    @property
    def facts(self):
        """The list of the known facts, in ascending order."""
        return sorted(self._notes.known)

    def twin(self):
        """Return an independent copy."""
        return twin_of(self)

    def learn(self, *facts):
        """Learn all of the facts or none; return the list of those that were unknown."""
        notes = self._notes.twin()
        new = []
        for index, fact in enumerate(facts):
            if not is_fact(fact, self._forest) or notes.rules_out(fact):
                raise InvalidFact(index)
            if fact not in notes.known:
                notes.take(fact)
                new.append(fact)
        # Notes that a view holds are never changed but replaced, so that twins may share them.
        self._notes = notes
        return new

    def knows(self, value):
        """Tell whether the value is a known fact."""
        # True equals 1, and a list cannot be looked up, so the value must be a fact first.
        return is_fact(value, self._forest) and value in self._notes.known

    def row(self, place):
        """Return the row of the roll at this place, or None if it is unknown."""
        check_place(place)
        return self._notes.row_at(place)

    def gap(self, place):
        """Return the least smaller place whose row is unknown, or None."""
        check_place(place)
        for ahead in range(1, place):
            if self._notes.row_at(ahead) is None:
                return ahead
        return None

    def is_barred(self, request):
        """Tell whether a refusal of a request at this place is known."""
        check_place(request)
        return any([("refuse", request, place) in self._notes.known for place in range(1, request)])

    def has_refused(self, place):
        """Tell whether a refusal by the spender at this place is known."""
        return any([("refuse", request, place) in self._notes.known for request in range(place + 1, LAST_PLACE + 1)])

    def is_spender(self, value):
        """Tell whether the value is a place at which a spender is known."""
        return self._is_row("spender", value)

    def is_request(self, value):
        """Tell whether the value is a place at which a request is known."""
        return self._is_row("request", value)

    def _is_row(self, kind, value):
        if not is_place(value):
            return False
        row = self._notes.row_at(value)
        return row is not None and row[0] == kind

    def spenders_to(self, place):
        """Return the list of the places up to this one at which spenders are known."""
        return [each for each in range(1, place + 1) if self.is_spender(each)]

    def claim(self, place):
        """Return the claim of the spender at this place, less the greatest release known."""
        if not self.is_spender(place):
            raise InvalidPlace(place)
        return max(0, self._notes.row_at(place)[3] - self._notes.released.get(place, 0))

    def open_requests(self):
        """Return the list of the rows of the known requests that are not barred."""
        places = [place for place in range(1, LAST_PLACE + 1) if self.is_request(place)]
        return [self._notes.row_at(place) for place in places if not self.is_barred(place)]

    def allowed(self, place):
        """Return the list of the rows of the requests that this place allows for."""
        check_place(place)
        known = self._notes.known
        return [row for row in self.open_requests() if row[1] < place or ("consent", row[1], place) in known]

    def funds_without(self, requests):
        """Return a dict of the deposits of all accounts, less the amounts of these requests, at least 0."""
        found = {name: self._notes.deposited.get(name, 0) for name in self._forest.names}
        for row in requests:
            found[row[2]] = max(0, found[row[2]] - row[3])
        return found

    def funds(self, place):
        """Return a dict of what this place counts on in each account itself."""
        return self.funds_without(self.allowed(place))

    def entitlement(self, place):
        """Return the entitlement of the spender at this place, or None if a row up to it is unknown."""
        if self.gap(place) is not None or not self.is_spender(place):
            return None
        claims = [(self.row(each)[2], self.claim(each)) for each in self.spenders_to(place)]
        return grants(self._forest, claims, self.funds(place))[-1]


def twin_of(view):
    """Return an independent copy of the view."""
    other = View(view._forest)
    other._notes = view._notes
    return other
