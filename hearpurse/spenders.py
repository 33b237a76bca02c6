"""Spenders: they learn facts, answer requests, spend at once and give up claims."""

from hearpurse.errors import InvalidFact, TooMuch, UnknownRule
from hearpurse.facts import ANSWERS, is_fact
from hearpurse.names import is_amount
from hearpurse.rules import CORRECT, RULES, consents, entitlement_by
from hearpurse.views import View, twin_of


def is_own(place, fact):
    """Tell whether the fact is an answer or a release of the spender at this place."""
    if fact[0] in ANSWERS:
        return fact[2] == place
    return fact[0] == "release" and fact[1] == place


class Spender:
    """A spender, which knows its row, its answers, its releases and what it has learned."""

    def __init__(self, forest, row, *, rule=CORRECT):
        if not is_fact(row, forest) or row[0] != "spender":
            raise InvalidFact(0)
        if rule not in RULES:
            raise UnknownRule("there is no such rule")
        self._forest = forest
        self._row = row
        self._rule = rule
        self._spent = 0
        self._log = []
        self._view = View(forest)
        self._view.learn(row)

    @property
    def place(self):
        """The place of the spender."""
        return self._row[1]

    @property
    def spent(self):
        """What the spender has spent in all."""
        return self._spent

    @property
    def view(self):
        """A copy of the view of the spender."""
        return twin_of(self._view)

    @property
    def log(self):
        """The list of what the spender learned and did."""
        return list(self._log)

    def twin(self):
        """Return an independent copy."""
        other = Spender(self._forest, self._row, rule=self._rule)
        other._spent = self._spent
        other._log = list(self._log)
        other._view = self._view.twin()
        return other

    def learn(self, *facts):
        """Learn all of the facts or none; then answer and spend. Return the list of what was done."""
        self._check_own(facts)
        new = self._view.learn(*facts)
        self._log.append(("learned", tuple(new)))
        done = self._answer_requests() + self._spend_more()
        self._log.extend(done)
        return done

    def release(self, amount):
        """Give up so much of the claim; return the fact of the release."""
        claim = self._view.claim(self.place)
        available = claim - self._spent
        if not is_amount(amount) or amount > available:
            raise TooMuch(available)
        fact = ("release", self.place, self._row[3] - claim + amount)
        self._view.learn(fact)
        self._log.append(fact)
        return fact

    def _check_own(self, facts):
        """Raise InvalidFact if an answer or a release of this spender is among the facts that it does not know."""
        for index, fact in enumerate(facts):
            if is_fact(fact, self._forest) and is_own(self.place, fact) and not self._view.knows(fact):
                # An earlier argument that cannot be learned is the one to name.
                trial = self._view.twin()
                earlier = facts[:index]
                trial.learn(*earlier)
                raise InvalidFact(index)

    def _answer_requests(self):
        """Answer each open request behind the own row; return the list of the answers."""
        answers = []
        # A request that this spender has refused is barred, and so not open.
        behind = [row[1] for row in self._view.open_requests() if row[1] > self.place]
        for request in behind:
            if not self._view.knows(("consent", request, self.place)):
                agrees = consents(self._rule, self._forest, self._view, self.place, request, self._spent)
                answer = ("consent" if agrees else "refuse", request, self.place)
                self._view.learn(answer)
                answers.append(answer)
        return answers

    def _spend_more(self):
        """Spend what the entitlement exceeds the spendings by; return a list with the spending, if there is one."""
        more = entitlement_by(self._rule, self._forest, self._view, self.place, True) - self._spent
        if more <= 0:
            return []
        self._spent += more
        return [("spend", more)]
