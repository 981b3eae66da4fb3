"""Signs and rows: whether values are such, where they hold, and what can be reckoned with rows."""

from aswritten.errors import BadRow
from aswritten.forms import ascends, is_tuple
from aswritten.models import values_at
from aswritten.signs import is_sign, is_sign_true, signs_of


def check_sign(model, value):
    """Tell whether any value is a sign of the model or a name."""
    return is_sign(signs_of(model), value)


def sign_holds(model, sign, filling):
    """Tell whether a sign of the model that is no name holds in the filling."""
    return is_sign_true(_all_sayings(model), sign, values_at(model, filling))


def _all_sayings(model):
    return {item[0]: item[1] for item in model[1] + model[2]}


def norm(pairs, least):
    """Return the row that says that the sum of c times the worth of side over the pairs is at least least."""
    totals = {}
    for (sign, worth), c in pairs:
        totals[sign] = totals.get(sign, 0) + (c if worth else -c)
        if not worth:
            least = least - c
    parts = []
    for sign in sorted(totals):
        c = totals[sign]
        if c > 0:
            parts.append(((sign, True), c))
        elif c < 0:
            parts.append(((sign, False), -c))
            least = least - c
    return (tuple(parts), max(0, least))


def denial(row):
    """Return the row that holds exactly where row does not."""
    parts, least = row
    return norm(tuple([(side, -c) for side, c in parts]), 1 - least)


def row_clashes(row):
    """Tell whether the row holds in no setting of its signs, as its coefficients sum to less than its least."""
    return sum([c for side, c in row[0]]) < row[1]


def row_holds(model, row, filling):
    """Tell whether a row without names holds in the filling."""
    sayings = _all_sayings(model)
    at = values_at(model, filling)
    parts, least = row
    return sum([c for (sign, worth), c in parts if is_sign_true(sayings, sign, at) == worth]) >= least


def check_row(model, value):
    """Raise BadRow if any value is no row whose signs are signs of the model or names."""
    signs = signs_of(model)
    if not is_row(value, lambda sign: is_sign(signs, sign)):
        raise BadRow()


def is_row(value, is_known):
    """Tell whether any value is a row; is_known tells of any value whether it is a sign that may stand in it."""
    if not is_tuple(value, 2, 2) or type(value[0]) is not tuple or not _is_whole(value[1], 0):
        return False
    if not all([_is_part(part) and is_known(part[0][0]) for part in value[0]]):
        return False
    return ascends([part[0][0] for part in value[0]])


def _is_part(value):
    if not is_tuple(value, 2, 2) or not _is_whole(value[1], 1):
        return False
    return is_side_form(value[0])


def is_side_form(value):
    """Tell whether any value is a side, if its first item is a sign."""
    return is_tuple(value, 2, 2) and type(value[1]) is bool


def _is_whole(value, low):
    return type(value) is int and value >= low
