"""Webs: their form, their ways, and the web of a list of rows of values."""

from aswritten.forms import ascends, is_number, is_tuple


def is_web(domains, value):
    """Tell whether any value is a web over names with these domains, a list in their order."""
    many = len(domains) + 1
    if not is_tuple(value, many, many) or not all([type(level) is tuple for level in value]):
        return False
    if () in value:
        return all([level == () for level in value])
    if len(value[0]) != 1 or value[-1] != ((),):
        return False
    for domain, level, behind in zip(domains, value, value[1:]):
        if not all([_is_node(domain, len(behind), node) for node in level]):
            return False
    return True


def _is_node(domain, many, value):
    if not is_tuple(value, 1, len(domain)) or not all([_is_pair(domain, many, pair) for pair in value]):
        return False
    return ascends([v for v, u in value])


def _is_pair(domain, many, value):
    return is_tuple(value, 2, 2) and type(value[0]) is int and value[0] in domain and is_number(value[1], 0, many - 1)


def many_ways(web):
    """Return the number of rows of values by which one can go from the first level to the last."""
    if web[0] == ():
        return 0
    ways = [1]
    for level in reversed(web[:-1]):
        ways = [sum([ways[u] for v, u in node]) for node in level]
    return ways[0]


def web_of(many, rows):
    """Return the least web through which just these ascending rows of so many values go."""
    if rows == []:
        return ((),) * (many + 1)
    # from the last level on: for each beginning of rows a number, the same for those with the same rows behind
    numbers = {row: 0 for row in rows}
    levels = [[()]]
    for k in reversed(range(many)):
        nexts = {}
        for row in numbers:
            nexts.setdefault(row[:k], []).append((row[k], numbers[row]))
        known = {}
        for pairs in nexts.values():
            known.setdefault(tuple(pairs), len(known))
        levels.append(list(known))
        numbers = {row: known[tuple(pairs)] for row, pairs in nexts.items()}
    levels.reverse()
    return tuple([tuple(level) for level in levels])
