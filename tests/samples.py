"""Models, sayings and odd values that several tests use."""

import itertools

from aswritten.errors import BadModel, WrittenError
from aswritten.models import check_model

# one right saying of each kind, over the unknowns a to h of SMALL_UNKNOWNS
SAYINGS = {
    "least": ("least", (("b", 3), ("a", -2)), 1),
    "same": ("same", (("a", 1), ("b", 1), ("c", 1)), 3),
    "unlike": ("unlike", ("a", "b", "c")),
    "counts": ("counts", ("a", "b", "c"), ((-5, 0, 0), (0, 0, 1), (1, 1, 2))),
    "table": ("table", ("a", "b"), ((-7, 0), (0, 1), (1, 2), (2, 0))),
    "bar": ("bar", ("b", "c"), ((0, 0), (1, 1))),
    "pick": ("pick", "a", ("b", "c"), "d"),
    "top": ("top", ("a", "b"), "c"),
    "product": ("product", "a", "b", "c"),
    "ahead": ("ahead", ("a", "b"), ("c", "d")),
    "machine": ("machine", ("a", "b", "c"), 0, ((0, 0, 0), (0, 1, 1), (1, 0, 1), (1, 2, 3)), (1, 3)),
    "works": ("works", ("a", "b", "c"), (1, 2, 3), (4, 5, 6), 10),
    "round": ("round", ("a", "b", "c")),
    "claim": ("claim", ("or", (("from", "a", 1), ("not", ("is", "b", 0)), ("and", ())))),
    "when": ("when", ("is", "a", 1), ("unlike", ("a", "b"))),
}

SMALL_UNKNOWNS = tuple((name, (0, 1, 2)) for name in "abcdefgh")


def model_with(saying, unknowns=SMALL_UNKNOWNS):
    return (unknowns, (("said", saying),), ())


def model_with_soft(saying, unknowns=SMALL_UNKNOWNS):
    return (unknowns, (), (("said", saying, 7),))


def model_of_all_kinds():
    sayings = tuple(("s." + word, SAYINGS[word]) for word in SAYINGS)
    soft = tuple(("t." + word, SAYINGS[word], 10) for word in list(SAYINGS)[-8:])
    return (SMALL_UNKNOWNS, sayings, soft)


def fault(value):
    """None for a right model, otherwise the pair (part, number) that BadModel has."""
    try:
        answer = check_model(value)
    except BadModel as error:
        assert isinstance(error, WrittenError)
        return (error.part, error.number)
    assert answer is None
    return None


def nested(depth, inner=()):
    """A value that has inner below this many tuples."""
    value = inner
    for _ in range(depth):
        value = (value,)
    return value


def nested_not(depth, inner):
    """inner below this many "not"s."""
    value = inner
    for _ in range(depth):
        value = ("not", value)
    return value


ODD_VALUES = (
    None, True, False, 0, 1, -1, 12, 201, -201, 10 ** 6 + 1, -(10 ** 29), "", "a", "said", "least", "when", "A b",
    "x" * 25, "x" * 20000, (), ((),), (None,), (True,), ("a",), ("a", "a"), ("a", 1), ("a", True), (0, 1), (1, 0),
    (0, False), (0, 0), ((0, 0), (0, 0)), (("a", 1), ("a", 1)), ("from", "a", 1), ("is", "zz", 1), ("not",),
    ("when", ("is", "a", 1), ("unlike", ("a",))), nested(29), nested(29, None), nested_not(28, ("is", "a", 1)),
    nested_not(14, nested(14)), (0,) * 13, ("a",) * 100, tuple(range(1000)),
)


def changed_at_each_place(value, odd):
    """All values that come of value with odd in the place of one of its items, at any depth."""
    if not isinstance(value, tuple):
        return
    for k, item in enumerate(value):
        yield value[:k] + (odd,) + value[k + 1:]
        yield value[:k] + value[k + 1:]
        for inner in changed_at_each_place(item, odd):
            yield value[:k] + (inner,) + value[k + 1:]


def all_tuples(unknowns):
    """All fillings of the domains, ascending."""
    return list(itertools.product(*(domain for name, domain in unknowns)))
