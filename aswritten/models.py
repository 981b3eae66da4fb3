"""Models: whether a value is a right one, and what its sayings say of a filling."""

from aswritten.errors import BadModel
from aswritten.forms import are_small, ascends, is_name, is_number, is_tuple, is_value
from aswritten.holding import holds
from aswritten.sayings import is_saying, own_names

MOST_UNKNOWNS = 24
MOST_SAYINGS = 40
MOST_SOFT = 8
MOST_VALUES = 12
GREATEST_PRICE = 100


def check_model(value):
    """Raise BadModel if any value is no right model."""
    if not is_tuple(value, 3, 3) or not all([type(part) is tuple for part in value]):
        raise BadModel("model", -1)
    unknowns, sayings, soft = value
    if unknowns == ():
        raise BadModel("unknowns", 0)
    _check_part("unknowns", (), unknowns, MOST_UNKNOWNS, _is_unknown_item)
    domains = domains_of(value)
    _check_part("sayings", unknowns, sayings, MOST_SAYINGS, lambda item: _is_saying_item(domains, item))
    _check_part("soft", unknowns + sayings, soft, MOST_SOFT, lambda item: _is_soft_item(domains, item))


def _check_part(part, before, items, most, is_right):
    # before has the right items of the parts that stand in front, whose names are taken
    taken = {item[0]: True for item in before}
    for number, item in enumerate(items):
        if number >= most or not is_right(item) or item[0] in taken:
            raise BadModel(part, number)
        taken[item[0]] = True


def _is_unknown_item(value):
    if not is_tuple(value, 2, 2) or not is_name(value[0]) or not is_tuple(value[1], 1, MOST_VALUES):
        return False
    return all([is_value(v) for v in value[1]]) and ascends(value[1])


def _is_saying_item(domains, value):
    return is_tuple(value, 2, 2) and is_name(value[0]) and is_saying(domains, value[1])


def _is_soft_item(domains, value):
    return is_tuple(value, 3, 3) and _is_saying_item(domains, value[:2]) and is_number(value[2], 1, GREATEST_PRICE)


def domains_of(model):
    """Return the dict that has the domain of each unknown under its name."""
    return {name: domain for name, domain in model[0]}


def values_at(model, filling):
    """Return the dict that has the filling's value of each unknown under its name."""
    return {item[0]: v for item, v in zip(model[0], filling)}


def saying_of(model, name):
    """Return the saying or soft saying of this name, which the model has."""
    sayings = {item[0]: item[1] for item in model[1] + model[2]}
    return sayings[name]


def keeps_saying(model, name, filling):
    """Tell whether the saying or soft saying of this name holds in the filling."""
    return holds(saying_of(model, name), values_at(model, filling))


def keeps(model, filling):
    """Tell whether all sayings that are not soft hold in the filling."""
    at = values_at(model, filling)
    for name, saying in model[1]:
        if not holds(saying, at):
            return False
    return True


def unknowns_of(model, name):
    """Return the ascending tuple of the names of the saying's own unknowns."""
    return tuple(sorted(own_names(saying_of(model, name))))


def is_small(model, name):
    """Tell whether the saying of this name is small."""
    return are_small(domains_of(model), own_names(saying_of(model, name)))
