"""How rows are written: a term is a sign, or True or False for what always or never holds."""

from aswritten.rows import norm


def is_term(domains, x, v):
    """Return the term for: the value of x is v."""
    return ("is", x, v) if v in domains[x] else False


def from_term(domains, x, v):
    """Return the term for [x >= v], for any integer v."""
    above = [u for u in domains[x] if u >= v]
    if above == []:
        return False
    return True if above[0] == domains[x][0] else ("from", x, above[0])


def next_value(domain, v):
    """Return the value of the domain behind v, or None behind the greatest."""
    return min([u for u in domain if u > v], default=None)


def is_terms(names, values):
    """Return the is-signs of the names with these values, which lie in their domains."""
    return [("is", x, v) for x, v in zip(names, values)]


def implied(fronts, behinds):
    """Return a list of the row fronts -> behinds, whose signs are all different, or [] where it is left out."""
    if False in fronts or True in behinds:
        return []
    parts = [((sign, False), 1) for sign in fronts if sign is not True]
    parts.extend([((sign, True), 1) for sign in behinds if sign is not False])
    return [(tuple(sorted(parts)), 1)]


def at_least(pairs, n):
    """Return the row: the sum of c * term over the pairs (term, c) is at least n."""
    always = sum([c for term, c in pairs if term is True])
    signs = [((term, True), c) for term, c in pairs if term is not True and term is not False]
    return norm(tuple(signs), n - always)


def at_most(pairs, n):
    """Return the row: the sum of c * term over the pairs (term, c) is at most n."""
    return at_least([(term, -c) for term, c in pairs], -n)


def weighed_terms(domains, terms):
    """Return the pairs (term, c) that sum to the sum of w * x over the terms."""
    pairs = []
    for x, w in terms:
        domain = domains[x]
        pairs.append((True, w * domain[0]))
        pairs.extend([(("from", x, v), w * (v - before)) for before, v in zip(domain, domain[1:])])
    return pairs


def with_side(row, side):
    """Return the row with this further side, its least as the coefficient; the row itself if its least is 0."""
    parts, least = row
    if least == 0:
        return row
    return (tuple(sorted(parts + ((side, least),))), least)
