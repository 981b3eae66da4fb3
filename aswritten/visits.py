"""Plain search: visits of states, with the choices and the fillings that are met."""

from aswritten.models import domains_of
from aswritten.sayings import own_names
from aswritten.striking import striker_of

MOST_FIRST = 400
MOST_WHOLE = 2000


class Search:
    """A plain search with a striker by an order of names, up to one choice more than most.

    choices has what was chosen, fillings the dicts of the values met, each as a tuple of one; is_cut tells whether
    there are more than most choices.
    """

    def __init__(self, striker, order, most, is_to_first):
        self.choices = []
        self.fillings = []
        self.is_cut = False
        self._striker = striker
        self._order = order
        self._most = most
        self._is_to_first = is_to_first

    def start(self, lefts):
        """Visit the state with these values left."""
        now = {x: values for x, values in lefts.items()}
        self._look_in(now, self._striker.strike_out(now), 0)

    def _look_in(self, lefts, entries, depth):
        if is_dead(lefts, entries):
            return
        x = next_open(self._order, lefts)
        if x is None:
            self.fillings.append(lefts)
            return
        for v in lefts[x]:
            if self._is_over():
                return
            self.choices.append((depth, x, v))
            if len(self.choices) > self._most:
                self.is_cut = True
                return
            now = {y: values for y, values in lefts.items()}
            now[x] = (v,)
            self._look_in(now, self._striker.strike_behind(now, x), depth + 1)

    def _is_over(self):
        return self.is_cut or self._is_to_first and self.fillings != []


def is_dead(lefts, entries):
    """Tell whether striking, with these entries, has left some unknown without a value."""
    return entries != [] and lefts[entries[-1][0]] == ()


def next_open(order, lefts):
    """Return the first name of the order that has more than one value left, or None."""
    for x in order:
        if len(lefts[x]) > 1:
            return x
    return None


def searched(model, order, most, is_to_first):
    """Return a plain search of the model that has ended."""
    search = Search(striker_of(model, tuple([s for s, saying in model[1]])), order, most, is_to_first)
    search.start(domains_of(model))
    return search


def names_in(model):
    """Return the tuple of the names of the unknowns, in order."""
    return tuple([x for x, domain in model[0]])


def filling_at(names, lefts):
    """Return the tuple of the values of the names, of which each has one left."""
    return tuple([lefts[x][0] for x in names])


def parts_of(model):
    """Return the tuple of the parts: names joined by sayings, in order."""
    # each name is of one lot alone, told by a name of the lot, so that no name can come to stand twice
    lot_of = {x: x for x in names_in(model)}
    for item in model[1] + model[2]:
        own = own_names(item[1])
        joined = {lot_of[x]: True for x in own}
        lot_of = {x: own[0] if lot in joined else lot for x, lot in lot_of.items()}
    parts = {}
    for x, lot in lot_of.items():
        parts.setdefault(lot, []).append(x)
    return tuple([tuple(part) for part in parts.values()])


def model_of_part(model, part):
    """Return the model of the unknowns of the part with all that is said of them."""
    unknowns = tuple([item for item in model[0] if item[0] in part])
    sayings, soft = [tuple([item for item in items if _has_any(item[1], part)]) for items in model[1:]]
    return (unknowns, sayings, soft)


def _has_any(saying, names):
    return any([x in names for x in own_names(saying)])
