"""Which values of the own unknowns of a saying stand in it.

lefts is a dict that has the ascending tuple of the values that are left of each unknown under its name; what is
returned is a dict of this form with the values that stand, for the own unknowns of the saying, also with ().
"""

from aswritten.claims import claim_names, is_true
from aswritten.forms import tuples_of
from aswritten.pairing import placeable
from aswritten.sayings import own_names


class Said:
    """A saying with its own unknowns, and with the tuples of values at which its claim is true, and is not."""

    def __init__(self, domains, saying):
        self.saying = saying
        self.names = own_names(saying)
        self.claimed = ()
        self.trues = []
        self.falses = []
        self.inner = None
        if saying[0] in ("claim", "when"):
            self.claimed = claim_names(saying[1])
            for values in tuples_of([domains[x] for x in self.claimed]):
                truth = is_true(saying[1], {x: v for x, v in zip(self.claimed, values)})
                if truth:
                    self.trues.append(values)
                else:
                    self.falses.append(values)
        if saying[0] == "when":
            self.inner = Said(domains, saying[2])

    def standing(self, lefts):
        """Return the values that stand."""
        if self.inner is not None:
            return self._standing_when(lefts)
        told = _STANDING[self.saying[0]]
        return told(self, lefts)

    def is_surely_true(self, lefts):
        """Tell whether the claim is true with all values that are left of its unknowns."""
        return self.left_of(self.falses, lefts) == []

    def left_of(self, tuples, lefts):
        """Return those tuples of values of the claim's unknowns that have only values that are left."""
        return _rows_left(self.claimed, tuples, lefts)

    def _standing_when(self, lefts):
        standing = {x: lefts[x] for x in self.names}
        falses = self.left_of(self.falses, lefts)
        if falses == []:
            standing.update(self.inner.standing(lefts))
            return standing
        columns = _in_columns(self.claimed, falses)
        # asked last, as it may take long: the inner saying cannot hold, so that the claim must not be true
        if any([columns[x] != lefts[x] for x in self.claimed]) and self.inner.is_dead(lefts):
            standing.update(columns)
        return standing

    def is_dead(self, lefts):
        """Tell whether striking with this saying alone leaves some unknown without a value."""
        now = {x: lefts[x] for x in self.names}
        while True:
            standing = self.standing(now)
            if any([values == () for values in standing.values()]):
                return True
            if standing == now:
                return False
            now = standing


def _in_columns(names, tuples):
    # the values that each name has in one of the tuples
    return {x: tuple(sorted(set([values[k] for values in tuples]))) for k, x in enumerate(names)}


def _none(names):
    return {x: () for x in names}


def _claim_standing(said, lefts):
    return _in_columns(said.claimed, said.left_of(said.trues, lefts))


def _least_standing(said, lefts):
    terms, n = said.saying[1:]
    return _sum_standing(terms, lefts, n, None)


def _same_standing(said, lefts):
    terms, n = said.saying[1:]
    return _sum_standing(terms, lefts, n, n)


def _sum_standing(terms, lefts, low, high):
    # the sum can come to low, and, where high is told, need not be greater
    ends = {x: sorted([w * lefts[x][0], w * lefts[x][-1]]) for x, w in terms}
    least = sum([pair[0] for pair in ends.values()])
    greatest = sum([pair[1] for pair in ends.values()])
    standing = {}
    for x, w in terms:
        above, below = greatest - ends[x][1], least - ends[x][0]
        standing[x] = tuple([v for v in lefts[x] if w * v + above >= low and (high is None or w * v + below <= high)])
    return standing


def _unlike_standing(said, lefts):
    rows = tuple([lefts[x] for x in said.names])
    triples = [(v, 0, 1) for v in sorted(set([w for row in rows for w in row]))]
    return _placed_standing(said, rows, triples)


def _counts_standing(said, lefts):
    return _placed_standing(said, tuple([lefts[x] for x in said.names]), said.saying[2])


def _placed_standing(said, rows, triples):
    possible = placeable(rows, triples)
    if possible is None:
        return _none(said.names)
    return {x: values for x, values in zip(said.names, possible)}


def _table_standing(said, lefts):
    xs, rows = said.saying[1:]
    return _in_columns(xs, _rows_left(xs, rows, lefts))


def _rows_left(xs, rows, lefts):
    return [row for row in rows if all([v in lefts[x] for x, v in zip(xs, row)])]


def _bar_standing(said, lefts):
    xs, rows = said.saying[1:]
    barred = _rows_left(xs, rows, lefts)
    size = 1
    for x in xs:
        size = size * len(lefts[x])
    standing = {}
    for k, x in enumerate(xs):
        column = [row[k] for row in barred]
        standing[x] = tuple([v for v in lefts[x] if column.count(v) * len(lefts[x]) < size])
    return standing


def _have_common(values, others):
    return any([v in others for v in values])


def _pick_standing(said, lefts):
    i, xs, r = said.saying[1:]
    places = [p for p in lefts[i] if 0 <= p < len(xs)]
    right = [p for p in places if _have_common(lefts[xs[p]], lefts[r])]
    standing = {i: tuple(right)}
    standing[r] = tuple([v for v in lefts[r] if any([v in lefts[xs[place]] for place in places])])
    for p, x in enumerate(xs):
        if right in ([], [p]):
            standing[x] = tuple([v for v in lefts[x] if p in places and v in lefts[r]])
        else:
            standing[x] = lefts[x]
    return standing


def _top_standing(said, lefts):
    xs, r = said.saying[1:]
    standing = {r: _top_values(xs, r, lefts)}
    for x in xs:
        alone = {y: lefts[y] for y in said.names}
        values = []
        for v in lefts[x]:
            alone[x] = (v,)
            if _top_values(xs, r, alone) != ():
                values.append(v)
        standing[x] = tuple(values)
    return standing


def _top_values(xs, r, lefts):
    floor = max([lefts[x][0] for x in xs])
    return tuple([u for u in lefts[r] if u >= floor and any([u in lefts[x] for x in xs])])


def _product_standing(said, lefts):
    x, y, z = said.names
    tuples = [(a, b, a * b) for a in lefts[x] for b in lefts[y] if a * b in lefts[z]]
    return _in_columns(said.names, tuples)


def _ahead_standing(said, lefts):
    xs, ys = said.saying[1:]
    standing = {}
    for x in said.names:
        alone = {y: lefts[y] for y in said.names}
        values = []
        for v in lefts[x]:
            alone[x] = (v,)
            if stop_of(xs, ys, alone) is None:
                values.append(v)
        standing[x] = tuple(values)
    return standing


def stop_of(xs, ys, lefts):
    """Return the number of the pair at which the xs cannot be ahead or even any more, or None if there is none."""
    for k, (x, y) in enumerate(zip(xs, ys)):
        if lefts[x][0] < lefts[y][-1]:
            return None
        if lefts[x][0] > lefts[y][-1]:
            return k
    return None


def reached_stands(machine, lefts):
    """Return for each number of steps the stands to which one can come with values that are left, as keys."""
    reached = [{machine[2]: True}]
    for x in machine[1]:
        before = reached[-1]
        reached.append({u: True for q, v, u in machine[3] if q in before and v in lefts[x]})
    return reached


def _machine_standing(said, lefts):
    xs, start, moves, ends = said.saying[1:]
    reached = reached_stands(said.saying, lefts)
    going_on = {q: True for q in ends}
    standing = {}
    for k in reversed(range(len(xs))):
        used = [(q, v) for q, v, u in moves if q in reached[k] and v in lefts[xs[k]] and u in going_on]
        standing[xs[k]] = tuple(sorted(set([v for q, v in used])))
        going_on = {q: True for q, v in used}
    return standing


def sure_times(works, lefts):
    """Return for each unknown the pair (first moment, moment behind the last) at which it surely runs, or None."""
    times = []
    for x, length in zip(works[1], works[2]):
        begin, end = lefts[x][-1], lefts[x][0] + length
        times.append((begin, end) if begin < end else None)
    return times


def crowded_moment(works, times, k, v):
    """Return a moment at which x number k with the value v and what surely runs have no room, or None."""
    length, needs, room = works[2][k], works[3], works[4]
    others = [(times[j], needs[j]) for j in range(len(needs)) if j != k and times[j] is not None]
    # what surely runs grows only where something begins
    for t in sorted([v] + [time[0] for time, need in others if v < time[0] < v + length]):
        if needs[k] + sum([need for time, need in others if time[0] <= t < time[1]]) > room:
            return t
    return None


def _works_standing(said, lefts):
    times = sure_times(said.saying, lefts)
    standing = {}
    for k, x in enumerate(said.names):
        standing[x] = tuple([v for v in lefts[x] if crowded_moment(said.saying, times, k, v) is None])
    return standing


def _round_standing(said, lefts):
    xs = said.names
    places = range(len(xs))
    rows = tuple([tuple([v for v in lefts[x] if v in places]) for x in xs])
    standing = _placed_standing(said, rows, [(v, 0, 1) for v in places])
    for p, x in enumerate(xs):
        standing[x] = tuple([v for v in standing[x] if early_round(xs, lefts, p, v) is None])
    return standing


def early_round(xs, lefts, p, v):
    """Return the places that are met from p by its value v, if one comes back to p too early, or None."""
    met = [p]
    while v != p:
        if not 0 <= v < len(xs) or len(met) == len(xs) or len(lefts[xs[v]]) != 1:
            return None
        met.append(v)
        v = lefts[xs[v]][0]
    return met if len(met) < len(xs) else None


_STANDING = {
    "least": _least_standing,
    "same": _same_standing,
    "unlike": _unlike_standing,
    "counts": _counts_standing,
    "table": _table_standing,
    "bar": _bar_standing,
    "pick": _pick_standing,
    "top": _top_standing,
    "product": _product_standing,
    "ahead": _ahead_standing,
    "machine": _machine_standing,
    "works": _works_standing,
    "round": _round_standing,
    "claim": _claim_standing,
}
