"""Forms of values: each function here takes any value where its parameter is called value.

domains is a dict that has the domain of each unknown of a model under its name.
"""

NAME_SIGNS = "abcdefghijklmnopqrstuvwxyz0123456789."
MOST_SIGNS = 24
MOST_NAMES = 12
VALUE_BOUND = 200
NUMBER_BOUND = 1000000
WEIGHT_BOUND = 100
SMALL_BOUND = 256


def is_tuple(value, fewest, most):
    """Tell whether value is a tuple of fewest to most items."""
    return type(value) is tuple and fewest <= len(value) <= most


def is_number(value, low, high):
    """Tell whether value is an integer from low to high."""
    # isinstance would take True and False for 1 and 0
    return type(value) is int and low <= value <= high


def is_value(value):
    """Tell whether value may stand in a domain or be written in a saying."""
    return is_number(value, -VALUE_BOUND, VALUE_BOUND)


def is_free_number(value):
    """Tell whether value is an integer that may stand where no range is told."""
    return is_number(value, -NUMBER_BOUND, NUMBER_BOUND)


def are_numbers(value, many, low, high):
    """Tell whether value is a tuple of so many integers from low to high."""
    return is_tuple(value, many, many) and all([is_number(n, low, high) for n in value])


def is_flat(value, fewest, most):
    """Tell whether value is a tuple of fewest to most strings and integers."""
    return is_tuple(value, fewest, most) and all([type(item) in (str, int) for item in value])


def ascends(items):
    """Tell whether items, which can be compared, ascend and have nothing twice."""
    return all([items[k] < items[k + 1] for k in range(len(items) - 1)])


def is_name(value):
    """Tell whether value may be the name of an unknown or a saying."""
    if type(value) is not str or not 1 <= len(value) <= MOST_SIGNS:
        return False
    return all([sign in NAME_SIGNS for sign in value])


def is_unknown(domains, value):
    """Tell whether value is the name of an unknown."""
    return type(value) is str and value in domains


def are_unknowns(domains, value, most):
    """Tell whether value is a tuple of one to most different names of unknowns."""
    if not is_tuple(value, 1, most) or not all([is_unknown(domains, x) for x in value]):
        return False
    return len(set(value)) == len(value)


def are_terms(domains, value):
    """Tell whether value is a tuple of pairs (name, weight) as a "least" has them."""
    if not is_tuple(value, 1, MOST_NAMES) or not all([_is_term(term) for term in value]):
        return False
    return are_unknowns(domains, tuple([x for x, weight in value]), MOST_NAMES)


def _is_term(value):
    return is_tuple(value, 2, 2) and is_number(value[1], -WEIGHT_BOUND, WEIGHT_BOUND) and value[1] != 0


def are_small(domains, names):
    """Tell whether different unknowns have few enough tuples of values to be small together."""
    size = 1
    for name in names:
        size = size * len(domains[name])
    return size <= SMALL_BOUND


def tuples_of(lists):
    """Return the list of all tuples with an item of each list, the last one changing first."""
    tuples = [()]
    for items in lists:
        tuples = [before + (item,) for before in tuples for item in items]
    return tuples
