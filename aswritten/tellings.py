"""Telling rows of a saying s, all of which hold just where the saying holds, in their order."""

from aswritten.claims import claim_names, is_true
from aswritten.forms import tuples_of
from aswritten.notation import at_least, at_most, from_term, implied, is_term, is_terms, weighed_terms, with_side
from aswritten.signs import inner_of, stand_levels


def telling_rows_of(domains, s, saying, is_soft):
    """Return the list of the telling rows of the saying or soft saying with the name s."""
    inner = inner_of(saying)
    listed = _ROWS[inner[0]]
    rows = listed(domains, s, inner)
    if saying[0] == "when":
        rows = [with_side(row, (("if", s), False)) for row in rows]
    if is_soft:
        rows = [with_side(row, (("kept", s), False)) for row in rows]
    return rows


def _least_rows(domains, s, least):
    return [at_least(weighed_terms(domains, least[1]), least[2])]


def _same_rows(domains, s, same):
    pairs = weighed_terms(domains, same[1])
    return [at_least(pairs, same[2]), at_most(pairs, same[2])]


def is_sum(domains, xs, v):
    """Return the pairs (term, c) that sum to the number of the xs with the value v."""
    return [(is_term(domains, x, v), 1) for x in xs]


def _unlike_rows(domains, s, saying):
    return unlike_rows(domains, saying[1])


def unlike_rows(domains, xs):
    """Return the rows that tell that no two of the xs have the same value."""
    times = {}
    for x in xs:
        for v in domains[x]:
            times[v] = times.get(v, 0) + 1
    return [at_most(is_sum(domains, xs, v), 1) for v in sorted(times) if times[v] > 1]


def _counts_rows(domains, s, counts):
    rows = []
    for v, low, high in counts[2]:
        pairs = is_sum(domains, counts[1], v)
        rows.append(at_least(pairs, low))
        rows.append(at_most(pairs, high))
    return rows


def _table_rows(domains, s, table):
    rows = [at_least([(("row", s, k), 1) for k in range(len(table[2]))], 1)]
    for place, x in enumerate(table[1]):
        for u in domains[x]:
            behinds = [("row", s, k) for k, values in enumerate(table[2]) if values[place] == u]
            rows.extend(implied([("is", x, u)], behinds))
    return rows


def _bar_rows(domains, s, bar):
    rows = []
    for values in bar[2]:
        rows.extend(implied([is_term(domains, x, v) for x, v in zip(bar[1], values)], []))
    return rows


def _pick_rows(domains, s, pick):
    i, xs, r = pick[1:]
    rows = []
    for u in domains[i]:
        if not 0 <= u < len(xs):
            rows.extend(implied([("is", i, u)], []))
    for p, x in enumerate(xs):
        if p in domains[i]:
            for v in sorted(set(domains[x] + domains[r])):
                x_term, r_term = is_term(domains, x, v), is_term(domains, r, v)
                rows.extend(implied([("is", i, p), x_term], [r_term]))
                rows.extend(implied([("is", i, p), r_term], [x_term]))
    return rows


def _top_rows(domains, s, top):
    xs, r = top[1:]
    rows = []
    for x in xs:
        for v in domains[x]:
            rows.extend(implied([from_term(domains, x, v)], [from_term(domains, r, v)]))
    for v in domains[r]:
        rows.extend(implied([from_term(domains, r, v)], [from_term(domains, x, v) for x in xs]))
    return rows


def _product_rows(domains, s, saying):
    x, y, z = saying[1:]
    rows = []
    for a in domains[x]:
        for b in domains[y]:
            rows.extend(implied([("is", x, a), ("is", y, b)], [is_term(domains, z, a * b)]))
    return rows


def _ahead_rows(domains, s, ahead):
    rows = []
    for k, (x, y) in enumerate(zip(ahead[1], ahead[2])):
        for v in domains[x]:
            rows.extend(implied([("even", s, k), from_term(domains, x, v)], [from_term(domains, y, v)]))
    return rows


def _machine_rows(domains, s, machine):
    last = len(machine[1])
    stands = stand_levels(machine)[last]
    return [at_least([(("stand", s, last, q), 1) for q in machine[4] if q in stands], 1)]


def _works_rows(domains, s, works):
    moments = sorted(set([t for x in works[1] for t in domains[x]]))
    return [works_row(domains, works, t) for t in moments]


def works_row(domains, works, t):
    """Return the row that tells that what runs at the moment t has room."""
    pairs = []
    for x, length, need in zip(works[1], works[2], works[3]):
        pairs.append((from_term(domains, x, t - length + 1), need))
        pairs.append((from_term(domains, x, t + 1), -need))
    return at_most(pairs, works[4])


def _round_rows(domains, s, saying):
    xs = saying[1]
    many = len(xs)
    rows = []
    for x in xs:
        for u in domains[x]:
            if not 0 <= u < many:
                rows.extend(implied([("is", x, u)], []))
    rows.extend(unlike_rows(domains, xs))
    for k in range(1, many):
        rows.extend(implied([("stand", s, k, 0)], []))
    rows.extend(implied([], [("stand", s, many, 0)]))
    for q in range(many):
        rows.append(at_most([(("stand", s, k, q), 1) for k in range(many)], 1))
    return rows


def _claim_rows(domains, s, saying):
    claim = saying[1]
    names = claim_names(claim)
    rows = []
    for values in tuples_of([domains[x] for x in names]):
        if not is_true(claim, {x: v for x, v in zip(names, values)}):
            rows.extend(implied(is_terms(names, values), []))
    return rows


def _web_rows(domains, s, web):
    return []


_ROWS = {
    "least": _least_rows,
    "same": _same_rows,
    "unlike": _unlike_rows,
    "counts": _counts_rows,
    "table": _table_rows,
    "bar": _bar_rows,
    "pick": _pick_rows,
    "top": _top_rows,
    "product": _product_rows,
    "ahead": _ahead_rows,
    "machine": _machine_rows,
    "works": _works_rows,
    "round": _round_rows,
    "claim": _claim_rows,
    "web": _web_rows,
}
