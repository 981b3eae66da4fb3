"""Sign rows of a saying s, which tell what its signs are, in their order."""

from aswritten.claims import claim_names, is_true
from aswritten.forms import tuples_of
from aswritten.notation import at_most, implied, is_term, is_terms
from aswritten.signs import inner_of, stand_levels


def sign_rows_of(domains, s, saying):
    """Return the list of the sign rows of the saying or soft saying with the name s."""
    inner = inner_of(saying)
    rows = []
    if inner[0] in _ROWS:
        listed = _ROWS[inner[0]]
        rows.extend(listed(domains, s, inner))
    if saying[0] == "when":
        rows.extend(_when_rows(domains, s, saying[1]))
    return rows


def _table_rows(domains, s, table):
    rows = []
    for k, values in enumerate(table[2]):
        front = [("row", s, k)]
        terms = [is_term(domains, x, v) for x, v in zip(table[1], values)]
        if False in terms:
            rows.extend(implied(front, []))
        else:
            for term in terms:
                rows.extend(implied(front, [term]))
            rows.extend(implied(terms, front))
    return rows


def _start_rows(s, stands, start):
    rows = implied([], [("stand", s, 0, start)])
    for q in stands:
        if q != start:
            rows.extend(implied([("stand", s, 0, q)], []))
    return rows


def _one_stand(s, k, stands):
    return [at_most([(("stand", s, k, q), 1) for q in stands], 1)]


def _machine_rows(domains, s, machine):
    xs, start, moves = machine[1:4]
    levels = stand_levels(machine)
    rows = _start_rows(s, levels[0], start)
    for k, x in enumerate(xs):
        rows.extend(_step_rows(domains, s, k, x, moves, levels[k + 1]))
    return rows


def _web_rows(domains, s, web):
    levels = stand_levels(web)
    if levels[0] == ():
        return []
    rows = _start_rows(s, levels[0], 0)
    for k, x in enumerate(web[1]):
        moves = [(j, v, u) for j, node in enumerate(web[2][k]) for v, u in node]
        rows.extend(_step_rows(domains, s, k, x, moves, levels[k + 1]))
    return rows


def _step_rows(domains, s, k, x, moves, behinds):
    # the step number k goes by the value of x to one of behinds
    rows = []
    for q, v, u in moves:
        rows.extend(implied([("stand", s, k, q), is_term(domains, x, v)], [("stand", s, k + 1, u)]))
    befores = {(u, v): [] for u in behinds for v in domains[x]}
    for q, v, u in moves:
        if v in domains[x]:
            befores[(u, v)].append(("stand", s, k, q))
    for u in behinds:
        for v in domains[x]:
            rows.extend(implied([("stand", s, k + 1, u), ("is", x, v)], befores[(u, v)]))
    return rows + _one_stand(s, k + 1, behinds)


def _round_rows(domains, s, saying):
    xs = saying[1]
    places = tuple(range(len(xs)))
    rows = _start_rows(s, places, 0)
    for k in places:
        for q in places:
            for v in places:
                rows.extend(implied([("stand", s, k, q), is_term(domains, xs[q], v)], [("stand", s, k + 1, v)]))
        for u in places:
            for q in places:
                rows.extend(implied([("stand", s, k + 1, u), ("stand", s, k, q)], [is_term(domains, xs[q], u)]))
        for u in places:
            rows.extend(implied([("stand", s, k + 1, u)], [("stand", s, k, q) for q in places]))
        rows.extend(_one_stand(s, k + 1, places))
    return rows


def _ahead_rows(domains, s, ahead):
    rows = implied([], [("even", s, 0)])
    for k, (x, y) in enumerate(zip(ahead[1], ahead[2])):
        before, behind = ("even", s, k), ("even", s, k + 1)
        rows.extend(implied([behind], [before]))
        for v in domains[x]:
            term = is_term(domains, y, v)
            rows.extend(implied([behind, ("is", x, v)], [term]))
            rows.extend(implied([before, ("is", x, v), term], [behind]))
    return rows


def _when_rows(domains, s, claim):
    names = claim_names(claim)
    rows = []
    for values in tuples_of([domains[x] for x in names]):
        terms = is_terms(names, values)
        if is_true(claim, {x: v for x, v in zip(names, values)}):
            rows.extend(implied(terms, [("if", s)]))
        else:
            rows.extend(implied(terms + [("if", s)], []))
    return rows


_ROWS = {
    "table": _table_rows,
    "machine": _machine_rows,
    "web": _web_rows,
    "round": _round_rows,
    "ahead": _ahead_rows,
}
