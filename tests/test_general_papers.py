"""[2], the interface: rows, givens, turns, the judge, pairings, striking and reasons."""

import copy
import inspect
import unittest

from aswritten import givens, judge, pairing, reasons, rows, striking, turns
from aswritten.errors import UnknownName
from tests.notes import row, total

UNKNOWNS = (("x", (0, 1, 2)), ("y", (0, 1, 2)))
MODEL = (UNKNOWNS, (("a", ("least", (("x", 1), ("y", 1)), 3)), ("d", ("unlike", ("x", "y"))),
                    ("t", ("table", ("x", "y"), ((0, 0), (1, 2), (2, 1))))), (("k", ("unlike", ("x", "y")), 2),))
CHANGE = (("x", "y", ((0, 0), (1, 1), (2, 2))), ("y", "x", ((0, 0), (1, 1), (2, 2))))
STATE = ((0, 1), (0, 2))
LOG = striking.strike_log(MODEL, STATE)
DEAD = ((0,), (0,))
ASKED = ("row", row("-> is x 0, is x 1, is x 2"))
PAPER = (((), (), (), ()), (("given", ("one", "y", 0)), ("given", ("one", "x", 0))))

CALLS = {
    rows: {
        "check_sign": {"model": MODEL, "value": ("row", "t", 2)},
        "sign_holds": {"model": MODEL, "sign": ("row", "t", 2), "filling": (2, 1)},
        "norm": {"pairs": (((("is", "x", 0), False), -3), ((("from", "x", 1), True), 2)), "least": -1},
        "denial": {"row": total("2 is x 0 + 1 from x 1 >= 2")},
        "row_clashes": {"row": ((), 1)},
        "row_holds": {"model": MODEL, "row": row("is x 0 -> kept k"), "filling": (0, 1)},
        "check_row": {"model": MODEL, "value": row("is x 0 -> kept k, name 4")},
    },
    givens: {
        "sign_rows": {"model": MODEL, "s": "t"},
        "telling_rows": {"model": MODEL, "s": "k"},
        "given_row": {"model": MODEL, "name": ("tells", "t", 1)},
    },
    turns: {
        "check_exchange": {"model": MODEL, "value": CHANGE},
        "keeps_model": {"model": MODEL, "value": CHANGE},
        "keeps_wish": {"model": MODEL, "wish": (0, (("x", 1), ("y", 1)), 1), "value": CHANGE},
        "turned": {"model": MODEL, "exchange": CHANGE, "filling": (0, 2)},
        "found": {"model": MODEL},
        "class_of": {"model": MODEL, "exchanges": (CHANGE, CHANGE), "filling": (1, 2)},
    },
    judge: {
        "judge": {"model": MODEL, "asked": ASKED, "value": PAPER},
        "first_fault": {"model": MODEL, "asked": ASKED, "value": (PAPER[0], PAPER[1][:1])},
        "rows_of": {"model": MODEL, "asked": ASKED, "paper": PAPER},
        "trimmed": {"model": MODEL, "asked": ASKED, "paper": PAPER},
        "forged": {"word": "best", "mark": "T"},
    },
    pairing: {
        "greatest_pairing": {"rows": ((1, 2), (2,), (2,))},
        "short_lot": {"rows": ((1, 2), (2,), (2,))},
        "placed": {"rows": ((1, 2), (2,), (2,)), "triples": ((1, 0, 1), (2, 0, 1))},
    },
    striking: {
        "full_state": {"model": MODEL},
        "stands": {"model": MODEL, "state": STATE, "s": "t", "x": "x", "v": 0},
        "strike": {"model": MODEL, "state": STATE},
        "strike_with": {"model": MODEL, "state": STATE, "names": ("d", "t")},
        "strike_log": {"model": MODEL, "state": STATE},
        "check_log": {"model": MODEL, "state": STATE, "value": LOG},
    },
    reasons: {
        "reason": {"model": MODEL, "state": STATE, "log": LOG, "k": len(LOG) - 1},
        "dead_end": {"model": MODEL, "state": DEAD, "log": striking.strike_log(MODEL, DEAD)},
    },
}


def kinds_are_plain(value):
    """Whether a result is built of plain tuples, strings, integers, None, True and False alone."""
    if type(value) is tuple:
        return all(kinds_are_plain(item) for item in value)
    return value is None or type(value) in (int, str, bool)


class Interface(unittest.TestCase):
    def test_names_and_parameters(self):
        for module, calls in CALLS.items():
            for name, arguments in calls.items():
                with self.subTest(name):
                    function = getattr(module, name)
                    self.assertEqual(function.__module__, module.__name__)
                    told = list(inspect.signature(function).parameters.values())
                    self.assertEqual([parameter.name for parameter in told], list(arguments))
                    for parameter in told:
                        self.assertIs(parameter.kind, inspect.Parameter.POSITIONAL_OR_KEYWORD)
                        self.assertIs(parameter.default, inspect.Parameter.empty)

    def test_no_argument_is_modified_and_equal_calls_have_equal_results(self):
        for module, calls in CALLS.items():
            for name, arguments in calls.items():
                with self.subTest(name):
                    passed = copy.deepcopy(arguments)
                    first = getattr(module, name)(**passed)
                    self.assertEqual(repr(passed), repr(arguments))
                    second = getattr(module, name)(*copy.deepcopy(arguments).values())
                    self.assertEqual(repr(first), repr(second))
                    self.assertTrue(kinds_are_plain(first))

    def test_an_error_is_raised_again(self):
        for _ in range(2):
            with self.assertRaises(UnknownName) as caught:
                givens.given_row(MODEL, ("tells", "t", 700))
            self.assertEqual(caught.exception.name, ("tells", "t", 700))
