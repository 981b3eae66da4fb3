"""Sayings: their form and their unknowns."""

from aswritten.claims import claim_names, is_claim
from aswritten.forms import MOST_NAMES, are_numbers, are_small, are_terms, are_unknowns, ascends
from aswritten.forms import is_free_number, is_number, is_tuple, is_value

MOST_TRIPLES = 12
MOST_COUNTED = 12
MOST_COLUMNS = 6
MOST_ROWS = 60
GREATEST_STAND = 11
MOST_STANDS = 12
MOST_MOVES = 40
GREATEST_LENGTH = 50
GREATEST_NEED = 100
GREATEST_ROOM = 1200


def is_saying(domains, value):
    """Tell whether any value is a right saying about unknowns with these domains."""
    if not is_tuple(value, 2, 5) or type(value[0]) is not str or value[0] not in _CHECKS:
        return False
    check = _CHECKS[value[0]]
    return check(domains, value)


def _is_sum(domains, value):
    return len(value) == 3 and are_terms(domains, value[1]) and is_free_number(value[2])


def _is_unlike(domains, value):
    return len(value) == 2 and are_unknowns(domains, value[1], MOST_NAMES)


def _is_counts(domains, value):
    if len(value) != 3 or not are_unknowns(domains, value[1], MOST_NAMES):
        return False
    triples = value[2]
    if not is_tuple(triples, 1, MOST_TRIPLES) or not all([_is_triple(triple) for triple in triples]):
        return False
    return ascends([v for v, low, high in triples])


def _is_triple(value):
    if not is_tuple(value, 3, 3) or not is_value(value[0]) or not is_number(value[1], 0, MOST_COUNTED):
        return False
    return is_number(value[2], value[1], MOST_COUNTED)


def _is_table(domains, value):
    if len(value) != 3 or not are_unknowns(domains, value[1], MOST_COLUMNS):
        return False
    rows = value[2]
    if not is_tuple(rows, 0, MOST_ROWS) or not all([_is_row(row, len(value[1])) for row in rows]):
        return False
    return ascends(rows)


def _is_row(value, many):
    return is_tuple(value, many, many) and all([is_value(v) for v in value])


def _is_bar(domains, value):
    return _is_table(domains, value) and are_small(domains, value[1])


def _is_pick(domains, value):
    if len(value) != 4 or not is_tuple(value[2], 1, MOST_NAMES):
        return False
    return are_unknowns(domains, (value[1], *value[2], value[3]), MOST_NAMES + 2)


def _is_top(domains, value):
    if len(value) != 3 or not is_tuple(value[1], 1, MOST_NAMES):
        return False
    return are_unknowns(domains, (*value[1], value[2]), MOST_NAMES + 1)


def _is_product(domains, value):
    return len(value) == 4 and are_unknowns(domains, value[1:], 3) and are_small(domains, value[1:])


def _is_ahead(domains, value):
    if len(value) != 3 or not is_tuple(value[1], 1, MOST_COLUMNS):
        return False
    many = len(value[1])
    return is_tuple(value[2], many, many) and are_unknowns(domains, value[1] + value[2], 2 * many)


def _is_machine(domains, value):
    if len(value) != 5 or not are_unknowns(domains, value[1], MOST_NAMES) or not _is_stand(value[2]):
        return False
    return _are_moves(value[3]) and _are_stands(value[4])


def _is_stand(value):
    return is_number(value, 0, GREATEST_STAND)


def _are_stands(value):
    return is_tuple(value, 0, MOST_STANDS) and all([_is_stand(stand) for stand in value]) and ascends(value)


def _are_moves(value):
    if not is_tuple(value, 0, MOST_MOVES) or not all([_is_move(move) for move in value]):
        return False
    # as no two moves have the same first two items, these alone ascend
    return ascends([move[:2] for move in value])


def _is_move(value):
    return is_tuple(value, 3, 3) and _is_stand(value[0]) and is_value(value[1]) and _is_stand(value[2])


def _is_works(domains, value):
    if len(value) != 5 or not are_unknowns(domains, value[1], MOST_NAMES):
        return False
    many = len(value[1])
    if not are_numbers(value[2], many, 1, GREATEST_LENGTH) or not are_numbers(value[3], many, 0, GREATEST_NEED):
        return False
    return is_number(value[4], 0, GREATEST_ROOM)


def _is_claim_saying(domains, value):
    return len(value) == 2 and is_claim(domains, value[1])


def _is_when(domains, value):
    if len(value) != 3 or not is_claim(domains, value[1]):
        return False
    # asked first, so that a "when" in a "when" in a "when" is not gone into
    if is_tuple(value[2], 2, 5) and value[2][0] == "when":
        return False
    return is_saying(domains, value[2])


_CHECKS = {
    "least": _is_sum,
    "same": _is_sum,
    "unlike": _is_unlike,
    "counts": _is_counts,
    "table": _is_table,
    "bar": _is_bar,
    "pick": _is_pick,
    "top": _is_top,
    "product": _is_product,
    "ahead": _is_ahead,
    "machine": _is_machine,
    "works": _is_works,
    "round": _is_unlike,
    "claim": _is_claim_saying,
    "when": _is_when,
}


def own_names(saying):
    """Return the names of the saying's own unknowns, each once, in the order in which they first stand."""
    word = saying[0]
    if word == "claim":
        return claim_names(saying[1])
    if word == "when":
        names = claim_names(saying[1]) + own_names(saying[2])
        return tuple({name: True for name in names})
    return _outer_names(saying)


def _outer_names(saying):
    # for sayings without a claim: all their names are different
    word = saying[0]
    if word in ("least", "same"):
        return tuple([x for x, weight in saying[1]])
    if word == "pick":
        return (saying[1], *saying[2], saying[3])
    if word == "top":
        return (*saying[1], saying[2])
    if word == "product":
        return saying[1:]
    if word == "ahead":
        return saying[1] + saying[2]
    return saying[1]
