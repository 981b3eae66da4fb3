"""Steps for cases of sayings in which something goes on, from pair to pair, stand to stand or place to place, or runs.

Each function takes a case (of its saying and value) and returns steps whose rows clash, looked at one by one.
"""

from aswritten.casework import one_taker, pairing_steps
from aswritten.notation import at_least, at_most, from_term, is_term, next_value
from aswritten.signs import machine_stands
from aswritten.standing import crowded_moment, early_round, stop_of, sure_times
from aswritten.tellings import works_row


def ahead_steps(case):
    """Return the steps for an "ahead"."""
    xs, ys = case.saying[1:]
    domains, lefts = case.domains, case.lefts
    stop = stop_of(xs, ys, lefts)
    numbers = case.sign_if([], [("even", case.s, 0)])
    for k in range(stop + 1):
        x, y, even = xs[k], ys[k], ("even", case.s, k)
        v = lefts[x][0]
        numbers.extend(case.ends(x) + case.ends(y))
        numbers.extend(case.telling_if([even, from_term(domains, x, v)], [from_term(domains, y, v)]))
        if k < stop:
            # v is the greatest value left of y, too, so that both have it
            above = next_value(domains[x], v)
            if above is not None:
                numbers.extend(case.telling_if([even, from_term(domains, x, above)], [from_term(domains, y, above)]))
            numbers.extend([case.draft.given(("part", x, v, 0)), case.draft.given(("part", y, v, 0))])
            numbers.extend(case.sign_if([even, ("is", x, v), ("is", y, v)], [("even", case.s, k + 1)]))
    return numbers


def machine_steps(case):
    """Return the steps for a "machine"."""
    xs, start, moves, ends = case.saying[1:]
    signed = machine_stands(case.saying)
    # for each number of steps, from the last one on, the stands from which values left lead to an end
    levels = [[q for q in ends if q in signed]]
    for x in reversed(xs):
        levels.append(sorted(set([q for q, v, u in moves if u in levels[-1] and v in case.lefts[x]])))
    levels.reverse()
    numbers = [number for q in levels[0] for number in case.sign_if([case.stand(0, q)], [])]
    for k, x in enumerate(xs):
        numbers.extend([_shut_step(case, k, x, u) for u in levels[k + 1]])
    return numbers + [case.telling(at_least([(case.stand(len(xs), q), 1) for q in levels[-1]], 1))]


def _shut_step(case, k, x, u):
    # where no stand that leads to u is met behind k values, and no value of x that is gone is taken, u is not met
    pairs = []
    for v in case.lefts[x]:
        befores = [case.stand(k, q) for q, w, behind in case.saying[3] if (w, behind) == (v, u)]
        pairs.extend([(number, 1) for number in case.sign_if([case.stand(k + 1, u), ("is", x, v)], befores)])
    return pairs[0][0] if x == case.x else case.draft.added(pairs + [(case.one(x, 0), 1)])


def works_steps(case):
    """Return the steps for a "works"."""
    works = case.saying
    times = sure_times(works, case.lefts)
    k = works[1].index(case.x)
    t = crowded_moment(works, times, k, case.v)
    numbers = []
    pairs = [(case.telling(works_row(case.domains, works, t)), 1)]
    for j, x in enumerate(works[1]):
        time = times[j]
        if j == k or time is not None and time[0] <= t < time[1]:
            numbers.extend(case.ends(x))
        elif works[3][j] > 0:
            pairs.extend([(number, works[3][j]) for number in _begun_steps(case, x, t - works[2][j] + 1, t + 1)])
    return numbers + [case.draft.added(pairs)]


def _begun_steps(case, x, begin, end):
    # the rows that sum to: [x >= begin] is at least [x >= end], where both are signs
    first, last = from_term(case.domains, x, begin), from_term(case.domains, x, end)
    if type(first) is bool or type(last) is bool:
        return []
    return [case.draft.given(("chain", x, u)) for u in case.domains[x] if first[2] <= u < last[2]]


def round_steps(case):
    """Return the steps for a "round"."""
    xs = case.saying[1]
    many = len(xs)
    if not 0 <= case.v < many:
        return case.telling_if([("is", case.x, case.v)], [])
    met = early_round(xs, case.lefts, xs.index(case.x), case.v)
    if met is not None:
        return _return_steps(case, met) if 0 in met else _apart_steps(case, met)
    return pairing_steps(case, {y: tuple([w for w in case.lefts[y] if 0 <= w < many]) for y in xs if y != case.x})


def _link_steps(case, met):
    # the values that lead round the places met
    return [case.one(case.saying[1][p], 0) for p in met if case.saying[1][p] != case.x]


def _return_steps(case, met):
    # going from place 0 one comes back too early
    xs = case.saying[1]
    place = met.index(0)
    path = met[place:] + met[:place] + [0]
    numbers = _link_steps(case, met) + case.sign_if([], [case.stand(0, 0)])
    for k in range(len(met)):
        link = ("is", xs[path[k]], path[k + 1])
        numbers.extend(case.sign_if([case.stand(k, path[k]), link], [case.stand(k + 1, path[k + 1])]))
    return numbers + case.telling_if([case.stand(len(met), 0)], [])


def _apart_steps(case, met):
    # going from place 0 one never comes to the places met, and the other places are too few
    many = len(case.saying[1])
    links = _link_steps(case, met)
    pairs = [(c, u) for c, u in zip(met, met[1:] + met[:1])]
    shut = {c: case.sign_if([case.stand(0, c)], [])[0] for c in met}
    numbers = list(shut.values())
    for k in range(many - 1):
        shut = {u: case.led([(case.stand(k + 1, u), False)], links + [shut[c]] + _enter_steps(case, k, c, u))
                for c, u in pairs}
        numbers.extend(list(shut.values()))
    caps = [case.telling(at_most([(case.stand(j, q), 1) for j in range(many)], 1)) for q in range(many) if q not in met]
    return numbers + [case.draft.added([(number, 1) for number in _place_sums(case, many) + caps])]


def _enter_steps(case, k, c, u):
    # behind k + 1 steps one is at u only if one was at c before, from where the value leads there
    xs = case.saying[1]
    numbers = one_taker(case, u)
    for q in range(len(xs)):
        if q != c:
            front = [case.stand(k + 1, u), case.stand(k, q)]
            numbers.extend(case.sign_if(front, [is_term(case.domains, xs[q], u)]))
    return numbers + _came_from(case, k, u)


def _came_from(case, k, u):
    places = range(len(case.saying[1]))
    return case.sign_if([case.stand(k + 1, u)], [case.stand(k, q) for q in places])


def _place_sums(case, many):
    # behind each number of steps, from 0 to many - 1, one is at some place
    last = _came_from(case, many - 1, 0) + case.telling_if([], [case.stand(many, 0)])
    sums = [case.draft.added([(number, 1) for number in last])]
    for k in reversed(range(many - 1)):
        befores = [number for u in range(many) for number in _came_from(case, k, u)]
        total = case.draft.added([(number, 1) for number in befores + sums[-1:]])
        sums.append(case.draft.divided(total, many))
    return sums
