"""[2], the interface: search, answers, webs and likeness."""

import copy
import inspect
import unittest

from aswritten import answers, likeness, search, webs
from aswritten.turns import found
from tests.test_general_papers import kinds_are_plain

UNKNOWNS = (("x", (0, 1, 2)), ("y", (0, 1, 2)))
MODEL = (UNKNOWNS, (("a", ("least", (("x", 1), ("y", 1)), 2)), ("d", ("unlike", ("x", "y")))),
         (("k", ("table", ("x", "y"), ((0, 2), (2, 0))), 2),))
ORDER = ("y", "x")
WISHES = ((0, (("x", 1),), 1), (2, (("y", -1),), 0))
SAME = tuple(((x,), tuple((v, v) for v in domain)) for x, domain in UNKNOWNS)

CALLS = {
    search: {
        "plain": {"model": MODEL, "order": ORDER},
        "first": {"model": MODEL},
        "whole": {"model": MODEL},
        "all_of": {"model": MODEL},
        "parts": {"model": MODEL},
        "part_model_of": {"model": MODEL, "part": ("x", "y")},
        "all_fillings": {"model": MODEL},
    },
    answers: {
        "solve": {"model": MODEL},
        "best": {"model": MODEL, "wishes": WISHES},
        "unbeaten": {"model": MODEL, "wishes": WISHES},
        "every": {"model": MODEL},
        "classes": {"model": MODEL, "exchanges": found(MODEL)},
    },
    webs: {
        "ways": {"web": webs.least_web(MODEL, ORDER)},
        "least_web": {"model": MODEL, "order": ORDER},
        "count": {"model": MODEL},
        "how_often": {"model": MODEL},
        "nth": {"model": MODEL, "number": 1},
        "number_of": {"model": MODEL, "filling": (2, 0)},
        "web_model": {"model": MODEL, "part": ("x", "y"), "web": webs.least_web(MODEL, ("x", "y"))},
        "count_paper": {"model": MODEL},
        "judge_count": {"model": MODEL, "number": 4, "value": webs.count_paper(MODEL)},
    },
    likeness: {
        "check_view": {"one": MODEL, "other": MODEL, "value": SAME},
        "seen": {"one": MODEL, "other": MODEL, "view": SAME, "filling": (0, 2)},
        "view_model": {"one": MODEL, "other": MODEL, "view": SAME},
        "alike": {"one": MODEL, "other": MODEL, "there": SAME, "back": SAME},
        "judge_alike": {"one": MODEL, "other": MODEL, "there": SAME, "back": SAME,
                        "value": likeness.alike(MODEL, MODEL, SAME, SAME)[1]},
        "added": {"model": MODEL, "name": "s", "saying": ("least", (("x", 1),), 1)},
        "freed": {"model": MODEL, "name": "d"},
    },
}


class Interface(unittest.TestCase):
    def test_names_and_parameters(self):
        for module, calls in CALLS.items():
            for name, arguments in calls.items():
                with self.subTest(name):
                    function = getattr(module, name)
                    self.assertEqual(function.__module__, module.__name__)
                    told = list(inspect.signature(function).parameters.values())
                    self.assertEqual([parameter.name for parameter in told], list(arguments))
                    for parameter in told:
                        self.assertIs(parameter.kind, inspect.Parameter.POSITIONAL_OR_KEYWORD)
                        self.assertIs(parameter.default, inspect.Parameter.empty)

    def test_no_argument_is_modified_and_equal_calls_have_equal_results(self):
        for module, calls in CALLS.items():
            for name, arguments in calls.items():
                with self.subTest(name):
                    passed = copy.deepcopy(arguments)
                    first = getattr(module, name)(**passed)
                    self.assertEqual(repr(passed), repr(arguments))
                    second = getattr(module, name)(*copy.deepcopy(arguments).values())
                    self.assertEqual(repr(first), repr(second))
                    self.assertTrue(kinds_are_plain(first))
