"""Whether sayings hold: at is a dict that has the value of each unknown under its name."""

from aswritten.claims import is_true


def holds(saying, at):
    """Tell whether the saying holds at these values."""
    tell = _TELLS[saying[0]]
    return tell(saying, at)


def weighed(terms, at):
    """Return the sum of weight * value over the terms."""
    return sum([weight * at[x] for x, weight in terms])


def _least_holds(saying, at):
    return weighed(saying[1], at) >= saying[2]


def _same_holds(saying, at):
    return weighed(saying[1], at) == saying[2]


def _unlike_holds(saying, at):
    return len({at[x] for x in saying[1]}) == len(saying[1])


def _counts_holds(saying, at):
    values = [at[x] for x in saying[1]]
    return all([low <= values.count(v) <= high for v, low, high in saying[2]])


def _table_holds(saying, at):
    return tuple([at[x] for x in saying[1]]) in saying[2]


def _bar_holds(saying, at):
    return not _table_holds(saying, at)


def _pick_holds(saying, at):
    i, xs, r = saying[1:]
    return 0 <= at[i] < len(xs) and at[xs[at[i]]] == at[r]


def _top_holds(saying, at):
    return at[saying[2]] == max([at[x] for x in saying[1]])


def _product_holds(saying, at):
    x, y, z = saying[1:]
    return at[x] * at[y] == at[z]


def _ahead_holds(saying, at):
    return [at[x] for x in saying[1]] <= [at[y] for y in saying[2]]


def _machine_holds(saying, at):
    path = path_of(saying, at)
    return len(path) > len(saying[1]) and path[-1] in saying[4]


def _works_holds(saying, at):
    # what runs grows only where something starts, so no other moments need be asked
    return all([_load(saying, at, at[x]) <= saying[4] for x in saying[1]])


def _load(saying, at, moment):
    xs, lengths, needs = saying[1:4]
    return sum([need for x, length, need in zip(xs, lengths, needs) if at[x] <= moment < at[x] + length])


def _round_holds(saying, at):
    path = path_of(saying, at)
    many = len(saying[1])
    return len(path) > many and path[many] == 0 and 0 not in path[1:many]


def _web_holds(saying, at):
    return len(path_of(saying, at)) > len(saying[1])


def _claim_holds(saying, at):
    return is_true(saying[1], at)


def _when_holds(saying, at):
    return not is_true(saying[1], at) or holds(saying[2], at)


def path_of(saying, at):
    """Return the stands, places or nodes that are met one after the other, as far as one can go."""
    xs = saying[1]
    if saying[0] == "round":
        return _places_met(xs, at)
    if saying[0] == "machine":
        nexts = {(before, v): behind for before, v, behind in saying[3]}
        return _met(saying[2], [(at[x], nexts) for x in xs])
    steps = [(at[x], _nexts_of(level)) for x, level in zip(xs, saying[2])]
    return _met(0, steps)


def _nexts_of(level):
    return {(number, v): behind for number, node in enumerate(level) for v, behind in node}


def _met(start, steps):
    path = [start]
    for v, nexts in steps:
        if (path[-1], v) not in nexts:
            return path
        path.append(nexts[(path[-1], v)])
    return path


def _places_met(xs, at):
    # going on behind a return to place 0, too
    path = [0]
    for _ in xs:
        place = at[xs[path[-1]]]
        if not 0 <= place < len(xs):
            return path
        path.append(place)
    return path


_TELLS = {
    "least": _least_holds,
    "same": _same_holds,
    "unlike": _unlike_holds,
    "counts": _counts_holds,
    "table": _table_holds,
    "bar": _bar_holds,
    "pick": _pick_holds,
    "top": _top_holds,
    "product": _product_holds,
    "ahead": _ahead_holds,
    "machine": _machine_holds,
    "works": _works_holds,
    "round": _round_holds,
    "web": _web_holds,
    "claim": _claim_holds,
    "when": _when_holds,
}
