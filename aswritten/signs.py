"""Signs of a model: which ones there are, and where they hold."""

from aswritten.claims import is_true
from aswritten.forms import is_flat
from aswritten.holding import holds, path_of

LONGEST_SIGN = 4


def inner_of(saying):
    """Return the inner saying of a "when"; any other saying is its own."""
    return saying[2] if saying[0] == "when" else saying


def machine_stands(machine):
    """Return the ascending tuple of the stands that have signs."""
    stands = {machine[2]: True}
    for before, v, behind in machine[3]:
        stands[before] = True
        stands[behind] = True
    return tuple(sorted(stands))


def stand_levels(saying):
    """Return for each number of steps, from 0 on, what has stand signs there: stands, places or nodes."""
    inner = inner_of(saying)
    if inner[0] == "machine":
        return [machine_stands(inner)] * (len(inner[1]) + 1)
    if inner[0] == "round":
        return [tuple(range(len(inner[1])))] * (len(inner[1]) + 1)
    if inner[0] == "web":
        return [tuple(range(len(level))) for level in inner[2]]
    return []


def signs_of(model):
    """Return a dict that has each sign of the model, but for names, as a key."""
    signs = [("kept", s) for s, saying, price in model[2]]
    for x, domain in model[0]:
        signs.extend([("from", x, v) for v in domain[1:]])
        signs.extend([("is", x, v) for v in domain])
    for item in model[1] + model[2]:
        signs.extend(_saying_signs(item[0], item[1]))
    return {sign: True for sign in signs}


def _saying_signs(s, saying):
    inner = inner_of(saying)
    signs = [("if", s)] if saying[0] == "when" else []
    if inner[0] == "table":
        signs.extend([("row", s, k) for k in range(len(inner[2]))])
    if inner[0] == "ahead":
        signs.extend([("even", s, k) for k in range(len(inner[1]) + 1)])
    for k, stands in enumerate(stand_levels(saying)):
        signs.extend([("stand", s, k, q) for q in stands])
    return signs


def is_sign(signs, value):
    """Tell whether any value is one of the signs or a name."""
    return is_flat(value, 2, LONGEST_SIGN) and (value in signs or is_name_sign(value))


def is_name_sign(value):
    """Tell whether a tuple of strings and integers is the sign of a name."""
    return value[0] == "name" and len(value) == 2 and type(value[1]) is int and value[1] >= 0


def is_sign_true(sayings, sign, at):
    """Tell whether a sign that is no name holds at these values, by a dict of all sayings and soft sayings."""
    word = sign[0]
    if word == "from":
        return at[sign[1]] >= sign[2]
    if word == "is":
        return at[sign[1]] == sign[2]
    saying = sayings[sign[1]]
    if word == "kept":
        return holds(saying, at)
    if word == "if":
        return is_true(saying[1], at)
    return _is_saying_sign_true(inner_of(saying), sign, at)


def _is_saying_sign_true(inner, sign, at):
    word, _, k = sign[:3]
    if word == "row":
        return tuple([at[x] for x in inner[1]]) == inner[2][k]
    if word == "even":
        return all([at[x] == at[y] for x, y in list(zip(inner[1], inner[2]))[:k]])
    path = path_of(inner, at)
    return len(path) > k and path[k] == sign[3]
