"""Claims: their form, their unknowns and their truth."""

from aswritten.forms import are_small, is_tuple, is_unknown, is_value

MOST_PARTS = 30
MOST_LEVELS = 6


def is_claim(domains, value):
    """Tell whether any value is a small claim that has an unknown and keeps to the bounds."""
    if not _is_built(domains, value):
        return False
    names = claim_names(value)
    return names != () and are_small(domains, names)


def _is_built(domains, value):
    # no recursion: a value that is no claim may be nested far deeper than a claim may be
    waiting = [(value, 1)]
    parts = 0
    while waiting:
        part, level = waiting.pop()
        parts += 1
        inner = _inner_values(domains, part)
        if inner is None or parts > MOST_PARTS or level > MOST_LEVELS:
            return False
        waiting.extend([(item, level + 1) for item in inner])
    return True


def _inner_values(domains, value):
    # what has to be claims for value to be one, or None if it is none anyway
    if not is_tuple(value, 2, 3):
        return None
    word = value[0]
    if len(value) == 3:
        is_first_sort = word in ("from", "is") and is_unknown(domains, value[1]) and is_value(value[2])
        return () if is_first_sort else None
    if word == "not":
        return value[1:]
    if word in ("and", "or") and type(value[1]) is tuple:
        return value[1]
    return None


def claim_names(claim):
    """Return the names of the claim's unknowns, each once, in the order in which they first stand."""
    return tuple({name: True for name in _standing_names(claim)})


def _standing_names(claim):
    if claim[0] in ("from", "is"):
        return [claim[1]]
    return [name for part in inner_claims(claim) for name in _standing_names(part)]


def inner_claims(claim):
    """Return the claims that a "not", "and" or "or" has."""
    return claim[1:] if claim[0] == "not" else claim[1]


def is_true(claim, at):
    """Tell whether the claim is true where the unknowns have the values that the dict at has."""
    word = claim[0]
    if word == "from":
        return at[claim[1]] >= claim[2]
    if word == "is":
        return at[claim[1]] == claim[2]
    if word == "not":
        return not is_true(claim[1], at)
    truths = [is_true(part, at) for part in claim[1]]
    return all(truths) if word == "and" else any(truths)
