"""[3]: answers at the greatest sizes, where few choices are made, take a short time."""

import unittest

from aswritten.answers import best, classes, every, solve, unbeaten
from aswritten.errors import TooFar
from aswritten.judge import judge
from aswritten.likeness import added, alike, judge_alike
from aswritten.models import check_model, keeps
from aswritten.search import all_fillings, whole
from aswritten.webs import count, count_paper, judge_count
from tests.test_greatest_sizes import Clock

VALUES = tuple(range(12))
X = tuple(f"unknown.with.a.name.{k:04}" for k in range(24))
FILLING = tuple((k + 1) % 12 for k in range(12)) + tuple(k * 5 % 12 for k in range(12))
AT = dict(zip(X, FILLING))
A, B = X[:12], X[12:]
MOVES = tuple(sorted((k, (AT[A[k]] + d) % 12, (k + 1) % 12) for k in range(12) for d in (0, 3, 5)))
ROWS = tuple(sorted({tuple(AT[x] for x in X[6:12])} | {(k % 12, k % 7, k % 5, 0, 0, k // 12) for k in range(59)}))
SAYINGS = (
    ("least", tuple((x, 100) for x in A), 6600), ("same", tuple((x, -7) for x in A), -7 * 66), ("unlike", A), ("unlike", B),
    ("counts", A, tuple((v, 1, 1) for v in VALUES)), ("table", X[6:12], ROWS), ("ahead", X[:5] + X[10:11], X[5:10] + X[11:12]),
    ("machine", A, 0, MOVES, tuple(range(6))), ("works", A, (3,) * 12, (30,) * 12, 120), ("round", A),
    ("when", ("is", X[0], 1), ("round", A)), ("top", X[1:10], X[10]), ("pick", X[12], A[:11], X[11]),
    ("bar", (X[0], X[1]), tuple((k, j) for k in VALUES for j in range(5) if (k, j) != (1, 2))),
    ("when", ("and", (("is", X[0], 1), ("is", X[5], 6))), ("unlike", A)))
WISHES = ((0, tuple((x, 7) for x in A), 1), (5, tuple((x, -3) for x in B), 0), (0, (), 1))


def pinned(free):
    """A model of the greatest size that FILLING keeps; all unknowns but the free ones are pinned to its values."""
    model = (tuple((x, VALUES) for x in X), (), ())
    said = [(f"s{k:02}", saying) for k, saying in enumerate(SAYINGS)]
    said = [item for item in said if keeps((model[0], (item,), ()), FILLING)]
    pins = [(f"p{k:02}", ("claim", ("is", x, AT[x]))) for k, x in enumerate(X) if x not in free]
    soft = tuple((f"t{k}", SAYINGS[k + 4], 5 + k) for k in range(8))
    model = (model[0], tuple((said + pins)[:40]), soft)
    check_model(model)
    return model


def same_names(model):
    return tuple(((x,), tuple((v, v) for v in domain)) for x, domain in model[0])


class GreatestSizes(unittest.TestCase):
    def test_few_choices(self):
        model = pinned(X[:5] + X[20:22])
        self.assertLess(whole(model), 10)
        with Clock(self):
            fillings = all_fillings(model)
            self.assertIn(FILLING, fillings)
            self.assertIn(solve(model)[1], fillings)
            self.assertEqual(count(model), len(fillings))
            self.assertEqual(len(every(model)), 24)
            word, worth, filling, paper = best(model, WISHES)
            self.assertTrue(judge(model, ("best", WISHES, worth), paper))
            word, pairs, paper = unbeaten(model, WISHES)
            self.assertTrue(judge(model, ("unbeaten", WISHES, tuple(one for one, filling in pairs)), paper))
            self.assertEqual(sum(map(len, classes(model, ()))), len(fillings))
            self.assertEqual(added(model, "more", ("unlike", (A[0], A[1])))[0], "model")

    def test_papers_for_numbers_and_likeness(self):
        model = pinned(X[:2] + X[20:22])
        with Clock(self, 60):
            self.assertTrue(judge_count(model, count(model), count_paper(model)))
        few = (model[0], model[1][6:9] + model[1][-24:], ())
        with Clock(self, 60):
            word, paper = alike(few, few, same_names(few), same_names(few))
            self.assertTrue(judge_alike(few, few, same_names(few), same_names(few), paper))

    def test_no_filling(self):
        model = pinned(())
        model = (model[0], model[1][:39] + (("z", ("claim", ("not", ("is", X[5], 6)))),), model[2])
        with Clock(self):
            for answer in (solve(model), best(model, WISHES), unbeaten(model, WISHES)):
                self.assertTrue(judge(model, ("none",), answer[1]))
            self.assertTrue(judge_count(model, 0, count_paper(model)))
            self.assertTrue(all(word == "never" for pairs in every(model) for v, (word, paper) in pairs))

    def test_far_more_choices(self):
        model = (pinned(())[0], SAYINGS_TO_SEARCH, ())
        with Clock(self):
            for call in (every, count, count_paper, lambda model: best(model, WISHES), lambda model: unbeaten(model, WISHES),
                         lambda model: alike(model, model, same_names(model), same_names(model))):
                with self.assertRaises(TooFar):
                    call(model)


SAYINGS_TO_SEARCH = (("s0", SAYINGS[2]), ("s1", SAYINGS[3]), ("s2", ("least", tuple((x, 1) for x in X[6:18]), 70)))
