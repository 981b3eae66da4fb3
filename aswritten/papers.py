"""Heads of papers, and the rows that steps draw from them."""

from aswritten.errors import BadWish
from aswritten.forms import is_tuple, is_unknown
from aswritten.models import domains_of
from aswritten.notation import at_least, at_most, weighed_terms
from aswritten.turns import keeps_model
from aswritten.wishes import check_wishes, joined_worth, ranges, worths

MOST_EXCHANGES = 12


def is_head(model, value):
    """Tell whether any value is the right head of a paper."""
    if not is_tuple(value, 4, 4) or not all([type(part) is tuple for part in value]):
        return False
    order, exchanges, wishes, fillings = value
    if not _is_order(domains_of(model), order) or not _are_wishes(model, wishes):
        return False
    if not all([is_filling(model, filling) for filling in fillings]):
        return False
    return len(exchanges) <= MOST_EXCHANGES and all([_is_exchange(model, order, exchange) for exchange in exchanges])


def _is_order(domains, value):
    return all([is_unknown(domains, x) for x in value]) and len(set(value)) == len(value)


def _are_wishes(model, value):
    if value == ():
        return True
    try:
        check_wishes(model, value)
    except BadWish:
        return False
    return True


def is_filling(model, value):
    """Tell whether any value is a filling of the model."""
    many = len(model[0])
    if not is_tuple(value, many, many):
        return False
    return all([type(v) is int and v in domain for v, (x, domain) in zip(value, model[0])])


def _is_exchange(model, order, value):
    return keeps_model(model, value) and all([x in order for x, y, pairs in value])


def wish_terms(model, wish):
    """Return the pairs (term, c) that sum to the worth of the wish."""
    constant, terms, prices = wish
    pairs = [(True, constant)] + weighed_terms(domains_of(model), terms)
    if prices == 1:
        for s, saying, price in model[2]:
            pairs.extend([(True, price), (("kept", s), -price)])
    return pairs


def better_row(model, wishes, filling):
    """Return the row: the joined wish is at most its joined worth at the filling less 1."""
    pairs = []
    for wish, (low, high) in zip(wishes, ranges(model, wishes)):
        pairs = [(term, c * (high - low + 1)) for term, c in pairs]
        pairs.extend(wish_terms(model, wish))
    return at_most(pairs, joined_worth(model, wishes, filling) - 1)


def beside_row(model, wish, filling):
    """Return the row: the wish is at most its worth at the filling less 1."""
    return at_most(wish_terms(model, wish), worths(model, (wish,), filling)[0] - 1)


def turned_row(model, order, exchanges):
    """Return the row: by the order, a filling is at most the one to which the exchanges lead it, one by one."""
    domains = domains_of(model)
    origins = _origins(domains, exchanges)
    pairs = []
    weight = 1
    for x in reversed(order):
        y, steps = origins[x]
        places = {v: place for place, v in enumerate(domains[x])}
        pairs.extend([(("is", y, v), weight * places[w]) for v, w in steps.items()])
        pairs.extend([(("from", x, v), -weight) for v in domains[x][1:]])
        weight = weight * len(domains[x])
    return at_least(pairs, 0)


def _origins(domains, exchanges):
    # for each unknown the one of the first filling from which its value comes, and where that one's values are led
    origins = {x: (x, {v: v for v in domains[x]}) for x in domains}
    for exchange in exchanges:
        moved = {}
        for x, y, pairs in exchange:
            first, steps = origins[x]
            on = {v: w for v, w in pairs}
            moved[y] = (first, {v: on[w] for v, w in steps.items()})
        origins.update(moved)
    return origins
