"""Wishes: whether a value is a right tuple of them, and their worths at fillings."""

from aswritten.errors import BadWish
from aswritten.forms import are_terms, ascends, is_free_number, is_number, is_tuple
from aswritten.holding import holds, weighed
from aswritten.models import domains_of, values_at

MOST_WISHES = 3


def check_wishes(model, value):
    """Raise BadWish if any value is no right tuple of wishes for the model."""
    domains = domains_of(model)
    if not is_tuple(value, 1, MOST_WISHES) or not all([_is_wish(domains, wish) for wish in value]):
        raise BadWish()


def _is_wish(domains, value):
    if not is_tuple(value, 3, 3) or not is_free_number(value[0]) or not is_number(value[2], 0, 1):
        return False
    return value[1] == () or are_terms(domains, value[1]) and ascends([x for x, weight in value[1]])


def worths(model, wishes, filling):
    """Return the tuple of the worths of the wishes at the filling."""
    at = values_at(model, filling)
    owed = sum([price for name, saying, price in model[2] if not holds(saying, at)])
    return tuple([constant + weighed(terms, at) + prices * owed for constant, terms, prices in wishes])


def ranges(model, wishes):
    """Return for each wish the pair of its least and greatest conceivable worth."""
    domains = domains_of(model)
    dearest = sum([price for name, saying, price in model[2]])
    return tuple([_range_of(domains, dearest, wish) for wish in wishes])


def _range_of(domains, dearest, wish):
    constant, terms, prices = wish
    ends = [(weight * domains[x][0], weight * domains[x][-1]) for x, weight in terms]
    low = constant + sum([min(pair) for pair in ends])
    high = constant + sum([max(pair) for pair in ends])
    return (low, high + prices * dearest)


def joined_worth(model, wishes, filling):
    """Return the worth of the joined wish, which is less exactly if the tuple of worths is less."""
    joined = 0
    for worth, (low, high) in zip(worths(model, wishes, filling), ranges(model, wishes)):
        joined = joined * (high - low + 1) + worth
    return joined
