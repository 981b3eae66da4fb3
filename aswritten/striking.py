"""Striking: taking out values that cannot stand in some saying, till all that are left stand in all of them."""

from aswritten.forms import is_flat
from aswritten.models import domains_of
from aswritten.standing import Said


def full_state(model):
    """Return the state in which all values of the domains are left."""
    return tuple([domain for x, domain in model[0]])


def stands(model, state, s, x, v):
    """Tell whether the value v, which is left of x, stands at the state in the saying or soft saying s."""
    said = _saids(model, (s,)).get(s)
    if said is None or x not in said.names:
        return True
    return v in said.standing(lefts_of(model, state))[x]


def _saids(model, names):
    # soft sayings strike nothing
    domains = domains_of(model)
    return {s: Said(domains, saying) for s, saying in model[1] if s in names}


def lefts_of(model, state):
    """Return the dict that has the values that are left of each unknown under its name."""
    return {item[0]: values for item, values in zip(model[0], state)}


def strike(model, state):
    """Return the closed state that comes of striking with all sayings, or None."""
    return strike_with(model, state, tuple([s for s, saying in model[1]]))


def strike_with(model, state, names):
    """Return the state that comes of striking with the sayings of these names alone, or None."""
    lefts = lefts_of(model, state)
    striker_of(model, names).strike_out(lefts)
    closed = tuple([lefts[item[0]] for item in model[0]])
    return None if () in closed else closed


def strike_log(model, state):
    """Return a log for the state: what is struck out one by one, and by which sayings."""
    names = tuple([s for s, saying in model[1]])
    return tuple(striker_of(model, names).strike_out(lefts_of(model, state)))


def striker_of(model, names):
    """Return the striker of the sayings of these names."""
    return Striker(_saids(model, names))


class Striker:
    """Sayings that strike; saids has them under their names."""

    def __init__(self, saids):
        self.saids = saids
        self._having = {}
        for s, said in saids.items():
            for x in said.names:
                self._having.setdefault(x, []).append(s)

    def strike_out(self, lefts):
        """Take values out of lefts till all stand or an unknown has none, and return the entries of the log."""
        return self._go_on(lefts, {s: True for s in self.saids})

    def strike_behind(self, lefts, x):
        """Do so where all stood before values of x were taken out."""
        return self._go_on(lefts, {s: True for s in self._having.get(x, [])})

    def _go_on(self, lefts, waiting):
        entries = []
        while waiting:
            s = list(waiting)[0]
            del waiting[s]
            struck = struck_values(self.saids[s], lefts)
            for x, v in struck:
                lefts[x] = tuple([w for w in lefts[x] if w != v])
                entries.append((x, v, s))
                if lefts[x] == ():
                    return entries
                waiting.update({other: True for other in self._having[x]})
        return entries


def struck_values(said, lefts):
    """Return the pairs (x, v) of unknowns and values that are left, but do not stand in the saying.

    They may be taken out one by one: none of them stands when others of them are gone.
    """
    standing = said.standing(lefts)
    return [(x, v) for x, values in standing.items() for v in lefts[x] if v not in values]


def check_log(model, state, value):
    """Tell whether any value is a log for the state."""
    if type(value) is not tuple:
        return False
    saids = _saids(model, tuple([s for s, saying in model[1]]))
    lefts = lefts_of(model, state)
    for number, entry in enumerate(value):
        if not _is_entry(saids, lefts, entry):
            return False
        x, v = entry[:2]
        lefts[x] = tuple([w for w in lefts[x] if w != v])
        if lefts[x] == ():
            return number == len(value) - 1
    return not any([struck_values(said, lefts) for said in saids.values()])


def _is_entry(saids, lefts, value):
    if not is_flat(value, 3, 3) or type(value[1]) is not int:
        return False
    x, v, s = value
    if x not in lefts or v not in lefts[x] or s not in saids or x not in saids[s].names:
        return False
    return v not in saids[s].standing(lefts)[x]
