"""What the document says of the auditor, said as plainly as there, whatever time it takes."""

import re

from tests.models import PlainSpender, is_barred, released_of, row_of

LARGEST = 10 ** 9


def is_number(value, least, most):
    return type(value) is int and least <= value <= most


def are_rows(value):
    if type(value) is not tuple or not 1 <= len(value) <= 8:
        return False
    names = []
    for row in value:
        if type(row) is not tuple or len(row) != 2 or type(row[0]) is not str:
            return False
        if not re.fullmatch("[a-z]{1,8}", row[0]) or row[0] in names:
            return False
        if row[1] is not None and (type(row[1]) is not str or row[1] not in names):
            return False
        names.append(row[0])
    return True


def is_fact(value, names):
    if type(value) is not tuple or not value or type(value[0]) is not str:
        return False
    match value:
        case ("spender" | "request", place, account, amount):
            return is_number(place, 1, 20) and account in names and is_number(amount, 1, LARGEST)
        case ("deposit", mark, account, amount):
            return is_number(mark, 1, 999) and account in names and is_number(amount, 1, LARGEST)
        case ("release", place, amount):
            return is_number(place, 1, 20) and is_number(amount, 1, LARGEST)
        case ("consent" | "refuse", request, place):
            return is_number(request, 1, 20) and is_number(place, 1, 20) and place < request
        case ("withdrawn", request):
            return is_number(request, 1, 20)
    return False


def is_entry(value, names):
    if is_fact(value, names):
        return value[0] in ("consent", "refuse", "release")
    if type(value) is not tuple or len(value) != 2 or type(value[0]) is not str:
        return False
    if value[0] == "learned":
        return type(value[1]) is tuple and all([is_fact(fact, names) for fact in value[1]])
    return value[0] == "spend" and is_number(value[1], 1, LARGEST)


def have_form(books):
    if type(books) is not tuple or len(books) != 4 or not all([type(part) is tuple for part in books]):
        return False
    rows, made, known, logs = books
    if not are_rows(rows):
        return False
    names = [name for name, _ in rows]
    for pair in made:
        if type(pair) is not tuple or len(pair) != 2 or not is_number(pair[0], 0, 20) or not is_fact(pair[1], names):
            return False
    if not all([is_fact(fact, names) for fact in known]):
        return False
    if len(logs) != len([fact for _, fact in made if fact[0] == "spender"]):
        return False
    return all([type(log) is tuple and all([is_entry(entry, names) for entry in log]) for log in logs])


def is_spender(facts, place):
    row = row_of(facts, place)
    return row is not None and row[0] == "spender"


def is_request(facts, place):
    row = row_of(facts, place)
    return row is not None and row[0] == "request"


def is_possible(facts, maker, fact):
    match fact:
        case ("spender" | "request", place, account, amount):
            rows = [each for each in facts if each[0] in ("spender", "request")]
            if maker != 0 or place != len(rows) + 1:
                return False
            if fact[0] == "spender":
                return True
            money = sum([each[3] for each in facts if each[0] == "deposit" and each[2] == account])
            asked = [each for each in rows if each[0] == "request" and each[2] == account]
            return amount <= money - sum([each[3] for each in asked if not is_barred(facts, each[1])])
        case ("deposit", mark, _, _):
            marks = [each for each in facts if each[0] == "deposit"]
            return (maker == 0 or is_spender(facts, maker)) and mark == len(marks) + 1 and mark <= 60
        case ("consent" | "refuse", request, place):
            if maker != place or not is_spender(facts, place) or not is_request(facts, request):
                return False
            return ("consent", request, place) not in facts and ("refuse", request, place) not in facts
        case ("release", place, total):
            if maker != place or not is_spender(facts, place):
                return False
            return released_of(facts, place) < total <= row_of(facts, place)[3]
        case ("withdrawn", request):
            if maker != 0 or not is_request(facts, request) or is_barred(facts, request) or fact in facts:
                return False
            ahead = [each[1] for each in facts if each[0] == "spender" and each[1] < request]
            return all([("consent", request, place) in facts for place in ahead])
    return False


def is_own(fact, place):
    return (fact[0] in ("consent", "refuse") and fact[2] == place) or fact[:2] == ("release", place)


def wrong_entry(rows, row, log, made):
    """Return the index of the first wrong entry, that behind the last one if one is missing, or None."""
    spender = PlainSpender(rows, row)
    at = 0
    while at < len(log):
        entry = log[at]
        if entry[0] == "learned":
            for k, fact in enumerate(entry[1]):
                if fact not in made or fact in spender.facts or fact in entry[1][:k] or is_own(fact, row[1]):
                    return at
            for due in spender.learn(*entry[1]):
                at += 1
                if at == len(log) or log[at] != due or (due[0] != "spend" and due not in made):
                    return at
        elif entry[0] == "release":
            total = entry[2]
            if entry[1] != row[1] or total <= released_of(spender.facts, row[1]) or total > row[3] - spender.spent:
                return at
            if entry not in made:
                return at
            spender.release(total - released_of(spender.facts, row[1]))
        else:
            return at
        at += 1
    return None


def plain_audit(books):
    if not have_form(books):
        return ("form",)
    rows, made, known, logs = books
    facts = set()
    for k, (maker, fact) in enumerate(made):
        if not is_possible(facts, maker, fact):
            return ("made", k)
        facts.add(fact)
    spenders = sorted([fact for fact in facts if fact[0] == "spender"], key=lambda row: row[1])
    for row, log in zip(spenders, logs):
        k = wrong_entry(rows, row, log, facts)
        if k is not None:
            return ("log", row[1], k)
    by_place = {row[1]: log for row, log in zip(spenders, logs)}
    for k, (maker, fact) in enumerate(made):
        if fact[0] in ("consent", "refuse", "release") and fact not in by_place[maker]:
            return ("made", k)
    for k, fact in enumerate(known):
        if fact not in facts or (k > 0 and not known[k - 1] < fact):
            return ("known", k)
    return None
