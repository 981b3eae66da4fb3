"""[2], [3]: arguments stay as they are, equal calls have equal results, the greatest sizes take a short time."""

import copy
import inspect
import time
import unittest

from aswritten import models, wishes
from aswritten.errors import BadModel
from tests.samples import model_of_all_kinds, nested

WISHES = ((3, (("a", 2), ("b", -1)), 1), (0, (), 1), (-4, (("c", 5),), 0))
FILLING = (0, 1, 2, 0, 1, 2, 0, 1)

INTERFACE = {
    models: {
        "check_model": ("value",),
        "keeps_saying": ("model", "name", "filling"),
        "keeps": ("model", "filling"),
        "unknowns_of": ("model", "name"),
        "is_small": ("model", "name"),
    },
    wishes: {
        "check_wishes": ("model", "value"),
        "worths": ("model", "wishes", "filling"),
        "ranges": ("model", "wishes"),
        "joined_worth": ("model", "wishes", "filling"),
    },
}


def arguments(name):
    every = {"model": model_of_all_kinds(), "name": "s.when", "filling": FILLING, "wishes": WISHES,
             "value": model_of_all_kinds() if name == "check_model" else WISHES}
    parameters = INTERFACE[models].get(name) or INTERFACE[wishes].get(name)
    return {key: every[key] for key in parameters}


class Interface(unittest.TestCase):
    def test_names_and_parameters(self):
        for module, functions in INTERFACE.items():
            for name, parameters in functions.items():
                with self.subTest(name):
                    function = getattr(module, name)
                    self.assertEqual(function.__module__, module.__name__)
                    told = inspect.signature(function).parameters.values()
                    self.assertEqual(tuple(parameter.name for parameter in told), parameters)
                    for parameter in told:
                        self.assertIs(parameter.kind, inspect.Parameter.POSITIONAL_OR_KEYWORD)
                        self.assertIs(parameter.default, inspect.Parameter.empty)

    def test_no_argument_is_modified_and_equal_calls_have_equal_results(self):
        for module, functions in INTERFACE.items():
            for name in functions:
                with self.subTest(name):
                    passed = arguments(name)
                    before = repr(copy.deepcopy(passed))
                    first = getattr(module, name)(**passed)
                    self.assertEqual(repr(passed), before)
                    second = getattr(module, name)(*arguments(name).values())
                    self.assertEqual(repr(first), repr(second))

    def test_an_error_is_raised_again_for_an_equal_value(self):
        for _ in range(2):
            with self.assertRaises(BadModel) as caught:
                models.check_model(((("a", (0,)),), (None,), ()))
            self.assertEqual((caught.exception.part, caught.exception.number), ("sayings", 0))


def greatest_sayings():
    """A right saying of the greatest size for each kind, over the greatest model."""
    names = tuple(f"unknown.with.a.name.{k:04}" for k in range(24))
    xs = names[:12]
    small = names[20:]
    terms = tuple((x, 100) for x in xs)
    rows = tuple((k, 0, 0, 0, 0, 0) for k in range(60))
    moves = tuple((k // 12, k - k // 12 * 12, 0) for k in range(40))
    claim = ("and", tuple(("is", small[k - k // 4 * 4], k) for k in range(29)))
    sayings = [
        ("least", terms, 1000000), ("same", terms, -1000000), ("unlike", xs),
        ("counts", xs, tuple((v, 0, 12) for v in range(12))), ("table", xs[:6], rows),
        ("bar", small, tuple(row[:4] for row in rows)), ("pick", names[13], xs, names[14]), ("top", xs, names[14]),
        ("product", *small[:3]), ("ahead", xs[:6], xs[6:]), ("machine", xs, 0, moves, tuple(range(12))),
        ("works", xs, (50,) * 12, (100,) * 12, 1200), ("round", xs), ("claim", claim), ("when", claim, ("round", xs)),
    ]
    unknowns = tuple((x, tuple(range(4 if x in small else 12))) for x in names)
    return unknowns, sayings


def greatest_model():
    unknowns, sayings = greatest_sayings()
    firm = tuple((f"s{k}", sayings[k % 15]) for k in range(40))
    soft = tuple((f"t{k}", sayings[(40 + k) % 15], 100) for k in range(8))
    return (unknowns, firm, soft)


class GreatestSizes(unittest.TestCase):
    def test_the_greatest_model_is_right(self):
        self.assertIsNone(models.check_model(greatest_model()))

    def test_each_call_takes_a_short_time(self):
        model = greatest_model()
        filling = tuple(domain[-1] for name, domain in model[0])
        three = tuple((1000000, tuple((name, 100) for name, domain in model[0][:12]), 1) for _ in range(3))
        begin = time.perf_counter()
        for _ in range(10):
            models.check_model(model)
            models.keeps(model, filling)
            for name, *_rest in model[1] + model[2]:
                models.keeps_saying(model, name, filling)
                models.unknowns_of(model, name)
                models.is_small(model, name)
            wishes.check_wishes(model, three)
            wishes.worths(model, three, filling)
            wishes.ranges(model, three)
            wishes.joined_worth(model, three, filling)
        self.assertLess(time.perf_counter() - begin, 10)

    def test_great_wrong_values_take_a_short_time(self):
        unknowns = (("a", (0, 1)),)
        broad = ("and", (("is", "a", 1),) * 6000)
        begin = time.perf_counter()
        for saying in (("claim", broad), ("unlike", ("a",) * 19000), ("table", ("a",), tuple((k,) for k in range(9000))),
                       ("least", (("a", 1),) * 6000, 0), ("claim", ("not", broad)), nested(29, (0,) * 19000)):
            with self.assertRaises(BadModel):
                models.check_model((unknowns, (("s", saying),), ()))
        with self.assertRaises(BadModel):
            models.check_model((unknowns, (), (("a" * 19000, broad, 1),) * 5))
        self.assertLess(time.perf_counter() - begin, 10)
