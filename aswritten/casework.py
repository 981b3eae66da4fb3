"""Steps for cases of sayings about sums, numbers of values, rows of values and single values.

Each function takes a case (of its saying and value) and returns steps whose rows clash, looked at one by one.
"""

from aswritten.claims import claim_names
from aswritten.notation import at_least, at_most, from_term, is_term, next_value, weighed_terms
from aswritten.pairing import placed, short_lot
from aswritten.tellings import is_sum


def sum_steps(case):
    """Return the steps for a "least" or "same"."""
    terms, n = case.saying[1:]
    greatest = sum([max([w * v for v in case.lefts[x]]) for x, w in terms])
    pairs = weighed_terms(case.domains, terms)
    row = at_least(pairs, n) if greatest < n else at_most(pairs, n)
    return [number for x, w in terms for number in case.ends(x)] + [case.telling(row)]


def unlike_steps(case):
    """Return the steps for an "unlike"."""
    others = {y: case.lefts[y] for y in case.saying[1] if y != case.x}
    return pairing_steps(case, others)


def pairing_steps(case, others):
    """Return the steps for the xs, which are to be unlike: the others, without v, have fewer values than they are."""
    names = list(others)
    rows = tuple([tuple([u for u in others[y] if u != case.v]) for y in names])
    lot, values = short_lot(rows)
    pairs = []
    for y in [names[k] for k in lot]:
        pairs.append((case.one(y, 0), 1))
        for w in case.lefts[y]:
            if w not in others[y]:
                pairs.extend([(number, 1) for number in case.telling_if([("is", y, w)], [])])
    # v may lie in the domain of x alone, but no other value in one domain: its row could take it
    pairs.extend([(number, 1) for w in values + (case.v,) for number in one_taker(case, w)])
    return [case.draft.added(pairs)]


def one_taker(case, v):
    """Return a list of the step that at most one of the xs has the value v, [] if it lies in one domain alone."""
    xs = case.saying[1]
    having = [y for y in xs if v in case.domains[y]]
    return [case.telling(at_most(is_sum(case.domains, xs, v), 1))] if len(having) > 1 else []


def counts_steps(case):
    """Return the steps for a "counts"."""
    xs, triples = case.saying[1:]
    word, values, lot = placed(tuple([case.lefts[x] for x in xs]), triples)
    pairs = []
    for v, low, high in triples:
        if v in values:
            pair = is_sum(case.domains, xs, v)
            pairs.append((case.telling(at_most(pair, high) if word == "high" else at_least(pair, low)), 1))
    for k, x in enumerate(xs):
        if word == "high" and k in lot and x != case.x:
            pairs.append((case.one(x, 0), 1))
        elif word == "low" and (k in lot or x == case.x):
            pairs.append((case.one(x, 1), 1))
    return [case.draft.added(pairs)]


def table_steps(case):
    """Return the steps for a "table"."""
    xs, rows = case.saying[1:]
    place = xs.index(case.x)
    having = [k for k, row in enumerate(rows) if row[place] == case.v]
    numbers = []
    for k in having:
        terms = [is_term(case.domains, x, v) for x, v in zip(xs, rows[k])]
        gone = [term for term, x, v in zip(terms, xs, rows[k]) if v not in case.lefts[x]]
        numbers.extend(case.sign_if([("row", case.s, k)], [] if False in terms else gone[:1]))
    return numbers + case.telling_if([("is", case.x, case.v)], [("row", case.s, k) for k in having])


def pick_steps(case):
    """Return the steps for a "pick"."""
    i, xs, r = case.saying[1:]
    if case.x == i:
        return _place_steps(case, case.v)
    numbers = []
    for p in case.lefts[i]:
        if not 0 <= p < len(xs):
            numbers.extend(case.telling_if([("is", i, p)], []))
        elif case.x == r or case.x == xs[p]:
            terms = [is_term(case.domains, xs[p], case.v), is_term(case.domains, r, case.v)]
            if case.x == r:
                terms.reverse()
            numbers.extend(case.telling_if([("is", i, p), terms[0]], [terms[1]]))
        else:
            numbers.append(case.led([(("is", i, p), False)], _place_steps(case, p)))
    return numbers + [case.one(i, 0)]


def _place_steps(case, p):
    # the place p cannot be picked
    i, xs, r = case.saying[1:]
    if not 0 <= p < len(xs):
        return case.telling_if([("is", i, p)], [])
    numbers = []
    for v in case.lefts[xs[p]]:
        numbers.extend(case.telling_if([("is", i, p), ("is", xs[p], v)], [is_term(case.domains, r, v)]))
    return numbers + [case.one(xs[p], 0)]


def top_steps(case):
    """Return the steps for a "top"."""
    xs, r = case.saying[1:]
    if case.x == r:
        return _top_steps(case, case.v, [])
    numbers = []
    for u in case.lefts[r]:
        numbers.append(case.led([(("is", r, u), False)], _top_steps(case, u, case.taken(r, u))))
    return numbers + [case.one(r, 0)]


def _top_steps(case, u, numbers):
    # u cannot be the greatest of the values; numbers settle the from-signs of r
    xs, r = case.saying[1:]
    domains = case.domains
    steps = numbers + (case.ends(r) if case.x == r else [])
    for x in xs:
        steps.extend(case.ends(x))
        above = next_value(domains[x], u)
        if above is not None:
            steps.extend(case.telling_if([from_term(domains, x, above)], [from_term(domains, r, above)]))
        if u in domains[x]:
            steps.append(case.draft.given(("part", x, u, 0)))
    return steps + case.telling_if([from_term(domains, r, u)], [from_term(domains, x, u) for x in xs])


def bar_steps(case):
    """Return the steps for a "bar"."""
    return branch_steps(case, case.saying[1], [], lambda signs: case.telling_if(signs, []))


def claim_steps(case):
    """Return the steps for a "claim"."""
    return branch_steps(case, claim_names(case.saying[1]), [], lambda signs: case.telling_if(signs, []))


def branch_steps(case, names, sides, leaf):
    """Return the steps that go through all tuples of values left of the names; leaf has those for is-signs of all.

    None of the sides is to hold, either.
    """
    sure = [case.one(y, 0) for y in names if len(case.lefts[y]) == 1 and y != case.x]
    return sure + _branches(case, names, {}, sides, leaf, sure)


def _branches(case, names, at, sides, leaf, sure):
    free = [y for y in names if y not in at and len(case.lefts[y]) > 1]
    if free == []:
        return leaf([("is", y, at.get(y, case.lefts[y][0])) for y in names])
    numbers = []
    y = free[0]
    for v in case.lefts[y]:
        inner = _branches(case, names, {**at, y: v}, sides, leaf, sure)
        if len(free) > 1:
            taken = [(("is", z, w), False) for z, w in at.items()] + [(("is", y, v), False)]
            inner = [case.led(sides + taken, sure + inner)]
        numbers.extend(inner)
    return numbers + [case.one(y, 0)]


def product_steps(case):
    """Return the steps for a "product"."""
    x, y, z = case.saying[1:]
    if case.x == x:
        return _factor_steps(case, x, case.v, y)
    if case.x == y:
        return _factor_steps(case, y, case.v, x)
    single = [case.one(z, 1)]
    lemmas = [case.led([(("is", x, a), False)], single + _factor_steps(case, x, a, y)) for a in case.lefts[x]]
    return lemmas + [case.one(x, 0)]


def _factor_steps(case, x, a, y):
    # no value of y goes with the value a of x
    z = case.saying[3]
    numbers = []
    for b in case.lefts[y]:
        numbers.extend(case.telling_if([("is", x, a), ("is", y, b)], [is_term(case.domains, z, a * b)]))
    return numbers + [case.one(y, 0)]
