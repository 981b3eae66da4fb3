"""What the words of [19] say of values that stand, told in another way than the package tells it."""

import itertools

from tests.test_holding import claim_of, names_in, saying_of


def own_names(saying):
    return names_in(saying[1:])


def stands_by_words(saying, lefts, x, v):
    """Whether the value v of x stands in the saying, where lefts has the values left of each unknown."""
    if x not in own_names(saying):
        return True
    if saying[0] == "when":
        return when_stands(saying, lefts, x, v)
    if saying[0] in ("least", "same"):
        return sum_stands(saying, lefts, x, v)
    if saying[0] == "works":
        return works_stands(saying, lefts, x, v)
    if saying[0] == "round":
        return round_stands(saying, lefts, x, v)
    return any(saying_of(saying, at) for at in all_values(own_names(saying), lefts, x, v))


def all_values(names, lefts, x, v):
    columns = [(v,) if y == x else lefts[y] for y in names]
    return [dict(zip(names, values)) for values in itertools.product(*columns)]


def sum_stands(saying, lefts, x, v):
    word, terms, n = saying
    greatest = sum(max(w * u for u in ((v,) if y == x else lefts[y])) for y, w in terms)
    least = sum(min(w * u for u in ((v,) if y == x else lefts[y])) for y, w in terms)
    return greatest >= n and (word == "least" or least <= n)


def works_stands(saying, lefts, x, v):
    parts = {y: (length, need) for y, length, need in zip(*saying[1:4])}
    for t in range(v, v + parts[x][0]):
        load = parts[x][1]
        for y in saying[1]:
            if y != x and max(lefts[y]) <= t < min(lefts[y]) + parts[y][0]:
                load += parts[y][1]
        if load > saying[4]:
            return False
    return True


def round_stands(saying, lefts, x, v):
    xs = saying[1]
    places = range(len(xs))
    if v not in places:
        return False
    rows = [(v,) if y == x else [u for u in lefts[y] if u in places] for y in xs]
    if not any(len(set(values)) == len(xs) for values in itertools.product(*rows)):
        return False
    start, place = xs.index(x), v
    for _ in range(1, len(xs)):
        if place == start:
            return False
        if place not in places or len(lefts[xs[place]]) > 1:
            return True
        place = lefts[xs[place]][0]
    return True


def when_stands(saying, lefts, x, v):
    claim, inner = saying[1:]
    names = names_in(claim)
    truths = [claim_of(claim, dict(zip(names, values))) for values in itertools.product(*[lefts[y] for y in names])]
    if all(truths):
        return stands_by_words(inner, lefts, x, v)
    if x in names and struck_by_words([inner], lefts) is None:
        return any(not claim_of(claim, at) for at in all_values(names, lefts, x, v))
    return True


def struck_by_words(sayings, lefts):
    """What is left behind striking with these sayings, one value at a time; None if an unknown has no value left."""
    lefts = dict(lefts)
    while True:
        gone = [(x, v) for x in lefts for v in lefts[x]
                if not all(stands_by_words(saying, lefts, x, v) for saying in sayings)]
        if not gone:
            return lefts
        x, v = gone[-1]
        lefts[x] = tuple(u for u in lefts[x] if u != v)
        if not lefts[x]:
            return None
