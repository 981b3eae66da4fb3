"""Plain search told in another way, and models with a known number of choices, for tests."""

import itertools

from tests.standing_words import own_names, struck_by_words
from tests.test_holding import saying_of


def visits(model, order):
    """The choices of plain search to its end, each with the fillings found before it, and all fillings."""
    choices, fillings = [], []
    sayings = [saying for s, saying in model[1]]

    def visit(lefts, depth):
        lefts = struck_by_words(sayings, lefts)
        if lefts is None:
            return
        several = [x for x in order if len(lefts[x]) > 1]
        if not several:
            fillings.append(tuple(lefts[x][0] for x, domain in model[0]))
            return
        for v in lefts[several[0]]:
            choices.append(((depth, several[0], v), len(fillings)))
            visit({**lefts, several[0]: (v,)}, depth + 1)

    visit({x: tuple(domain) for x, domain in model[0]}, 0)
    return choices, fillings


def numbers_of_choices(model, order):
    """The pair: how many choices to the first filling or the end, and how many in all."""
    choices, fillings = visits(model, order)
    return sum(found == 0 for choice, found in choices), len(choices)


def fillings_of(model):
    """The ascending list of all fillings, by trying all tuples."""
    names = [x for x, domain in model[0]]
    told = []
    for values in itertools.product(*[domain for x, domain in model[0]]):
        at = dict(zip(names, values))
        if all(saying_of(saying, at) for s, saying in model[1]):
            told.append(values)
    return told


def parts_by_words(model):
    """The parts, by joining as long as something can be joined."""
    lots = [{x} for x, domain in model[0]]
    for item in model[1] + model[2]:
        own = set(own_names(item[1]))
        lots = [lot for lot in lots if not lot & own] + [set().union(*[lot for lot in lots if lot & own])]
    names = [x for x, domain in model[0]]
    told = [tuple(x for x in names if x in lot) for lot in lots]
    return tuple(sorted(told, key=lambda part: names.index(part[0])))


def joining(names, s="join"):
    """Soft sayings that join all these names."""
    return tuple((f"{s}{k}", ("unlike", tuple(names[k:k + 12])), 1) for k in range(0, max(1, len(names) - 1), 11))


def free_model(*sizes):
    """Unknowns with so many values, which a soft saying joins: d1 + d1 * d2 + .. choices in all."""
    names = [f"x{k:02}" for k in range(len(sizes))]
    return (tuple((x, tuple(range(size))) for x, size in zip(names, sizes)), (), joining(names))


def late_model(free):
    """A model of one part with its first filling behind 394 + free choices; it is found with u 1."""
    names = ["u", "a", "b", "c", "p", "q", "r"] + [f"y{k}" for k in range(free)]
    sizes = [2, 2, 12, 5] + [2] * (3 + free)
    sayings = tuple((f"s{k}", ("when", ("is", "u", 0), ("unlike", pair)))
                    for k, pair in enumerate(itertools.combinations("pqr", 2)))
    return (tuple((x, tuple(range(size))) for x, size in zip(names, sizes)), sayings, joining(names))


def no_model(*sizes):
    """A model of one part without a filling: d1 * (1 + d2 * (1 + .. (1 + 2))) choices."""
    names = [f"x{k}" for k in range(len(sizes))] + ["p", "q", "r"]
    unknowns = tuple((x, tuple(range(size))) for x, size in zip(names, sizes + (2, 2, 2)))
    sayings = tuple((f"s{k}", ("unlike", pair)) for k, pair in enumerate(itertools.combinations("pqr", 2)))
    return (unknowns, sayings, joining(names))


# 2000 and 2001 choices in all
WHOLE_2000 = (8, 3, 2, 4, 9)
WHOLE_2001 = (3, 6, 10, 10)
# 400 choices without a filling, and 402
NONE_400 = (10, 3, 4)
NONE_402 = (6, 3, 7)


def beside(model, other):
    """Both models as one, with other names for what is of other."""
    from aswritten.renames import renamed_items, renamed_unknowns, with_beginning
    new = with_beginning(other, "o.")
    return (model[0] + renamed_unknowns(other[0], new), model[1] + renamed_items(other[1], new),
            model[2] + renamed_items(other[2], new))


def used_names(model, paper):
    """The names of unknowns and sayings that stand in given and told steps, and in signs of rows of steps."""
    names = set()

    def go(value):
        if isinstance(value, tuple):
            for item in value:
                go(item)
        elif isinstance(value, str):
            names.add(value)

    go(paper[1])
    return names & {item[0] for items in model for item in items}
