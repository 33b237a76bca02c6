"""The rules by which spenders decide: the correct one, and six faulty ones."""

from hearpurse.entitlements import grants

CORRECT = "correct"
RULES = ("correct", "gap", "glad", "free", "late", "poor", "deaf")


def counted_claim(rule, view, senior):
    """Return the claim with which the spender counts a senior."""
    claim = view.claim(senior)
    if rule == "poor":
        return claim // 2
    if rule == "deaf" and view.has_refused(senior):
        return 0
    return claim


def counts_request(rule, place, request, spends):
    """Tell whether the spender at this place counts a request that it allows for; it spends, or it answers."""
    if rule == "late" and request < place:
        return False
    return not (rule == "free" and spends and request > place)


def entitlement_by(rule, forest, view, place, spends):
    """Return the entitlement by which the spender at this place spends, or answers; 0 if a row ahead is unknown."""
    if rule != "gap" and view.gap(place) is not None:
        return 0
    requests = [row for row in view.allowed(place) if counts_request(rule, place, row[1], spends)]
    seniors = [each for each in view.spenders_to(place) if each != place]
    claims = [(view.row(each)[2], counted_claim(rule, view, each)) for each in seniors]
    claims.append((view.row(place)[2], view.claim(place)))
    return grants(forest, claims, view.funds_without(requests))[-1]


def consents(rule, forest, view, place, request, spent):
    """Tell whether the spender at this place, which has spent this, consents to the request."""
    if rule == "glad":
        return True
    supposed = view.twin()
    supposed.learn(("consent", request, place))
    return entitlement_by(rule, forest, supposed, place, False) >= spent
