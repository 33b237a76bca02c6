"""Books, and the auditor that finds the first entry of books that is impossible."""

from hearpurse.errors import InvalidForest
from hearpurse.facts import ANSWERS, LAST_PLACE, ROWS, is_fact
from hearpurse.forests import Forest
from hearpurse.names import is_amount, is_int
from hearpurse.scenes import KEEPER
from hearpurse.spenders import Spender, is_own
from hearpurse.views import View
from hearpurse.worlds import MOST_DEPOSITS, free_money, is_waiting, missing_consents


def parent_of(forest, name):
    """Return the parent of the account, or None."""
    above = forest.ancestors(name)
    return above[1] if len(above) > 1 else None


def books_of(world):
    """Return the books of a world: its forest, the facts made, the facts of the keeper, and the spenders' logs."""
    forest = world.forest
    rows = tuple([(name, parent_of(forest, name)) for name in forest.names])
    logs = tuple([tuple(world.spender(place).log) for place in world.nodes[1:]])
    return (rows, tuple(world.made), tuple(world.keeper.facts), logs)


def is_forest(value):
    """Tell whether the value is a tuple of the rows of a forest."""
    if not isinstance(value, tuple):
        return False
    try:
        Forest(value)
    except InvalidForest:
        return False
    return True


def are_facts(forest, value):
    """Tell whether the value is a tuple of facts."""
    return isinstance(value, tuple) and all([is_fact(fact, forest) for fact in value])


def is_made(forest, value):
    """Tell whether the value is a pair of a maker and a fact."""
    if not isinstance(value, tuple) or len(value) != 2:
        return False
    maker, fact = value
    return is_int(maker) and KEEPER <= maker <= LAST_PLACE and is_fact(fact, forest)


def is_answer_or_release(fact):
    """Tell whether the fact is one that a spender makes and keeps in its log."""
    return fact[0] in ANSWERS or fact[0] == "release"


def is_entry(forest, value):
    """Tell whether the value has one of the forms of what stands in a log."""
    if is_fact(value, forest):
        return is_answer_or_release(value)
    if not isinstance(value, tuple) or len(value) != 2:
        return False
    word, rest = value
    return (word == "learned" and are_facts(forest, rest)) or (word == "spend" and is_amount(rest))


def is_log(forest, value):
    """Tell whether the value is a tuple of entries of a log."""
    return isinstance(value, tuple) and all([is_entry(forest, entry) for entry in value])


def spender_rows(made):
    """Return the list of the rows of spenders, in the order in which they were made."""
    return [fact for _, fact in made if fact[0] == "spender"]


def have_form(books):
    """Tell whether the value has the form of books."""
    if not isinstance(books, tuple) or len(books) != 4 or not is_forest(books[0]):
        return False
    forest = Forest(books[0])
    _, made, known, logs = books
    if not isinstance(made, tuple) or not all([is_made(forest, pair) for pair in made]):
        return False
    if not are_facts(forest, known) or not isinstance(logs, tuple):
        return False
    return len(logs) == len(spender_rows(made)) and all([is_log(forest, log) for log in logs])


def is_possible_row(view, maker, row):
    """Tell whether the row may be made behind the facts of the view."""
    place = row[1]
    if maker != KEEPER or view.row(place) is not None or view.gap(place) is not None:
        return False
    return row[0] == "spender" or row[3] <= free_money(view, row[2])


def is_possible_deposit(view, maker, deposit):
    """Tell whether the deposit may be made behind the facts of the view."""
    earlier = [fact for fact in view.facts if fact[0] == "deposit"]
    if deposit[1] != len(earlier) + 1 or deposit[1] > MOST_DEPOSITS:
        return False
    return maker == KEEPER or view.is_spender(maker)


def is_possible_answer(view, maker, answer):
    """Tell whether the answer may be made behind the facts of the view."""
    _, request, place = answer
    if maker != place or not view.is_spender(place) or not view.is_request(request):
        return False
    return not any([view.knows((word, request, place)) for word in ANSWERS])


def is_possible_release(view, maker, release):
    """Tell whether the release may be made behind the facts of the view."""
    _, place, total = release
    if maker != place or not view.is_spender(place):
        return False
    claim = view.row(place)[3]
    return claim - view.claim(place) < total <= claim


def is_possible(view, maker, fact):
    """Tell whether the maker may make the fact behind the facts of the view."""
    kind = fact[0]
    if kind in ROWS:
        return is_possible_row(view, maker, fact)
    if kind == "deposit":
        return is_possible_deposit(view, maker, fact)
    if kind in ANSWERS:
        return is_possible_answer(view, maker, fact)
    if kind == "release":
        return is_possible_release(view, maker, fact)
    return maker == KEEPER and is_waiting(view, fact[1]) and len(missing_consents(view, fact[1])) == 0


def first_impossible(forest, made):
    """Return the index of the first fact that cannot be made there, or None."""
    view = View(forest)
    for at, (maker, fact) in enumerate(made):
        if not is_possible(view, maker, fact):
            return at
        view.learn(fact)
    return None


def can_learn(spender, facts, made):
    """Tell whether the spender may have learned these facts, of those that were made."""
    view = spender.view
    if len(set(facts)) < len(facts):
        return False
    return all([fact in made and not view.knows(fact) and not is_own(spender.place, fact) for fact in facts])


def given_up(spender, release):
    """Return by how much this release is greater than the one before."""
    view = spender.view
    return release[2] - (view.row(spender.place)[3] - view.claim(spender.place))


def can_release(spender, release, made):
    """Tell whether the spender may have made this release, which is one of the facts that were made."""
    if release[1] != spender.place or release not in made or given_up(spender, release) <= 0:
        return False
    return release[2] <= spender.view.row(spender.place)[3] - spender.spent


def first_wrong_entry(spender, log, made):
    """Return the index of the first wrong entry, that behind the last one if one is missing, or None."""
    due = []
    for at, entry in enumerate(log):
        if len(due) > 0:
            if entry != due[0] or (entry[0] in ANSWERS and entry not in made):
                return at
            due = due[1:]
        elif entry[0] == "learned" and can_learn(spender, entry[1], made):
            facts = entry[1]
            due = spender.learn(*facts)
        elif entry[0] == "release" and can_release(spender, entry, made):
            spender.release(given_up(spender, entry))
        else:
            return at
    return len(log) if len(due) > 0 else None


def wrong_log(forest, made, logs):
    """Return the flaw of the first log that has one, or None."""
    facts = {fact: True for _, fact in made}
    for row, log in zip(spender_rows(made), logs):
        at = first_wrong_entry(Spender(forest, row), log, facts)
        if at is not None:
            return ("log", row[1], at)
    return None


def first_unlogged(made, logs):
    """Return the index of the first answer or release that is not in its maker's log, or None."""
    places = [row[1] for row in spender_rows(made)]
    for at, (maker, fact) in enumerate(made):
        if is_answer_or_release(fact) and fact not in logs[places.index(maker)]:
            return at
    return None


def first_unknown(made, known):
    """Return the index of the first fact of the keeper that was not made or is not greater than the one before."""
    facts = {fact: True for _, fact in made}
    for at, fact in enumerate(known):
        if fact not in facts or (at > 0 and fact <= known[at - 1]):
            return at
    return None


def audit(books):
    """Return the first flaw of the books, or None."""
    if not have_form(books):
        return ("form",)
    rows, made, known, logs = books
    forest = Forest(rows)
    at = first_impossible(forest, made)
    if at is not None:
        return ("made", at)
    flaw = wrong_log(forest, made, logs)
    if flaw is not None:
        return flaw
    at = first_unlogged(made, logs)
    if at is not None:
        return ("made", at)
    at = first_unknown(made, known)
    return None if at is None else ("known", at)
