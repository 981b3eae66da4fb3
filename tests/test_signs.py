"""[8]: which values are signs, and in which fillings signs hold."""

import itertools
import random
import unittest

from aswritten.rows import check_sign, sign_holds
from tests.samples import ODD_VALUES, SAYINGS, SMALL_UNKNOWNS, changed_at_each_place, model_of_all_kinds
from tests.test_holding import claim_of, saying_of

MACHINE = ("machine", ("a", "b"), 4, ((0, 0, 2), (4, -1, 0), (4, 1, 7)), (2, 9))
UNKNOWNS = (("a", (-1, 0, 1)), ("b", (0, 2, 5)), ("c", (3,)))


def inner(saying):
    return saying[2] if saying[0] == "when" else saying


def expected_signs(model):
    """All signs of a model but names, listed as the document tells them."""
    signs = []
    for x, domain in model[0]:
        for v in domain:
            signs.append(("is", x, v))
            if v > min(domain):
                signs.append(("from", x, v))
    for item in model[1] + model[2]:
        name, saying = item[:2]
        if saying[0] == "when":
            signs.append(("if", name))
        if len(item) == 3:
            signs.append(("kept", name))
        told = inner(saying)
        if told[0] == "table":
            for k in range(len(told[2])):
                signs.append(("row", name, k))
        if told[0] in ("machine", "round", "ahead"):
            many = len(told[1])
            for k in range(many + 1):
                if told[0] == "ahead":
                    signs.append(("even", name, k))
                elif told[0] == "round":
                    signs.extend(("stand", name, k, q) for q in range(many))
                else:
                    stands = {told[2]} | {q for q, v, u in told[3]} | {u for q, v, u in told[3]}
                    signs.extend(("stand", name, k, q) for q in stands)
    return signs


class CheckSign(unittest.TestCase):
    def test_just_the_signs_of_the_model_and_names(self):
        for model in (model_of_all_kinds(), when_model(), (UNKNOWNS, (("m", MACHINE),), ())):
            signs = expected_signs(model)
            right = {repr(sign) for sign in signs}
            for sign in signs:
                self.assertIs(check_sign(model, sign), True, sign)
                for odd in (-1, 0, 1, 2, 3, 4, 5, 11, 12, True, False, None, "a", "s.when", (), (1,), "name"):
                    for value in changed_at_each_place(sign, odd):
                        is_name = repr(value).startswith("('name', ") and type(value[1]) is int and value[1] >= 0
                        self.assertIs(check_sign(model, value), repr(value) in right or is_name, value)

    def test_from_is_not_of_the_least_value(self):
        model = (UNKNOWNS, (), ())
        told = [("from", "a", v) for v in range(-3, 4) if check_sign(model, ("from", "a", v))]
        self.assertEqual(told, [("from", "a", 0), ("from", "a", 1)])
        told = [("is", "b", v) for v in range(-3, 7) if check_sign(model, ("is", "b", v))]
        self.assertEqual(told, [("is", "b", 0), ("is", "b", 2), ("is", "b", 5)])
        self.assertIs(check_sign(model, ("from", "c", 3)), False)
        self.assertIs(check_sign(model, ("is", "c", 3)), True)

    def test_stands_of_a_machine_are_start_and_those_of_moves(self):
        model = (UNKNOWNS, (("m", MACHINE),), ())
        for k in range(-1, 5):
            for q in range(-1, 13):
                self.assertIs(check_sign(model, ("stand", "m", k, q)), 0 <= k <= 2 and q in (0, 2, 4, 7), (k, q))

    def test_a_row_a_place_or_a_pair_too_many(self):
        model = model_of_all_kinds()
        many = len(SAYINGS["table"][2])
        self.assertTrue(check_sign(model, ("row", "s.table", many - 1)))
        self.assertFalse(check_sign(model, ("row", "s.table", many)))
        self.assertFalse(check_sign(model, ("row", "s.table", -1)))
        self.assertTrue(check_sign(model, ("even", "s.ahead", 0)))
        self.assertTrue(check_sign(model, ("even", "s.ahead", 2)))
        self.assertFalse(check_sign(model, ("even", "s.ahead", 3)))
        self.assertTrue(check_sign(model, ("stand", "s.round", 3, 2)))
        self.assertFalse(check_sign(model, ("stand", "s.round", 3, 3)))
        self.assertFalse(check_sign(model, ("stand", "s.round", 4, 0)))

    def test_if_is_of_a_when_and_kept_of_a_soft_saying(self):
        model = model_of_all_kinds()
        for item in model[1] + model[2]:
            self.assertIs(check_sign(model, ("if", item[0])), item[1][0] == "when")
            self.assertIs(check_sign(model, ("kept", item[0])), item in model[2])

    def test_names_from_0_on(self):
        model = (UNKNOWNS, (), ())
        for n in (0, 1, 10 ** 29, 10 ** 30, 10 ** 60):
            self.assertIs(check_sign(model, ("name", n)), True)
        for value in (("name", -1), ("name", True), ("name", "x"), ("name",), ("name", 0, 0), ("name", None), "name"):
            self.assertIs(check_sign(model, value), False)

    def test_odd_values(self):
        for value in ODD_VALUES:
            self.assertIs(check_sign(model_of_all_kinds(), value), repr(value) == repr(("from", "a", 1)), value)


def when_model():
    """Each saying with signs within a "when", plain and soft."""
    told = ("table", "machine", "round", "ahead", "unlike")
    firm = tuple(("w." + word, ("when", ("from", "a", 1), SAYINGS[word])) for word in told)
    soft = tuple(("v." + word, ("when", ("is", "b", 2), SAYINGS[word]), 3) for word in told)
    return (SMALL_UNKNOWNS, firm, soft)


def expected_truth(model, sign, at):
    word = sign[0]
    if word in ("is", "from"):
        return at[sign[1]] == sign[2] if word == "is" else at[sign[1]] >= sign[2]
    saying = {item[0]: item[1] for item in model[1] + model[2]}[sign[1]]
    if word == "kept":
        return saying_of(saying, at)
    if word == "if":
        return claim_of(saying[1], at)
    told = inner(saying)
    values = [at[x] for x in told[1]]
    if word == "row":
        return values == list(told[2][sign[2]])
    if word == "even":
        return values[:sign[2]] == [at[y] for y in told[2]][:sign[2]]
    stand = told[2] if told[0] == "machine" else 0
    for k in range(sign[2]):
        if told[0] == "machine":
            behind = [u for q, v, u in told[3] if q == stand and v == values[k]]
            if not behind:
                return False
            stand = behind[0]
        else:
            stand = values[stand]
            if stand not in range(len(values)):
                return False
    return stand == sign[3]


class SignHolds(unittest.TestCase):
    def test_all_signs_in_fillings_that_need_not_keep_the_model(self):
        chance = random.Random(8)
        wide = tuple((x, (-1, 0, 1, 2, 3)) for x, domain in SMALL_UNKNOWNS)
        for model in (model_of_all_kinds(), when_model()):
            for unknowns in (model[0], wide):
                model = (unknowns,) + model[1:]
                signs = expected_signs(model)
                for _ in range(40):
                    filling = tuple(chance.choice(domain) for x, domain in unknowns)
                    at = {x: v for (x, domain), v in zip(unknowns, filling)}
                    for sign in signs:
                        self.assertIs(sign_holds(model, sign, filling), expected_truth(model, sign, at), (sign, at))

    def test_missing_moves(self):
        model = (UNKNOWNS, (("m", MACHINE),), ())
        met = {filling: [sign for sign in expected_signs(model) if sign[0] == "stand" and
                         sign_holds(model, sign, filling)]
               for filling in itertools.product((-1, 0, 1), (0, 2, 5), (3,))}
        self.assertEqual(met[(-1, 0, 3)], [("stand", "m", 0, 4), ("stand", "m", 1, 0), ("stand", "m", 2, 2)])
        self.assertEqual(met[(-1, 2, 3)], [("stand", "m", 0, 4), ("stand", "m", 1, 0)])
        self.assertEqual(met[(0, 0, 3)], [("stand", "m", 0, 4)])
        self.assertEqual(met[(1, 0, 3)], [("stand", "m", 0, 4), ("stand", "m", 1, 7)])

    def test_a_round_goes_on_behind_place_0_and_stops_outside(self):
        unknowns = (("x", (-1, 0, 1, 2, 3)), ("y", (-1, 0, 1, 2, 3)), ("z", (-1, 0, 1, 2, 3)))
        model = (unknowns, (("r", ("round", ("x", "y", "z"))),), ())

        def path(*filling):
            return [q for k in range(4) for q in range(3) if sign_holds(model, ("stand", "r", k, q), filling)]

        self.assertEqual(path(1, 2, 0), [0, 1, 2, 0])
        self.assertEqual(path(1, 0, 2), [0, 1, 0, 1])
        self.assertEqual(path(0, 0, 0), [0, 0, 0, 0])
        self.assertEqual(path(2, 0, 3), [0, 2])
        self.assertEqual(path(-1, 0, 1), [0])
        self.assertEqual(path(1, -1, 1), [0, 1])

    def test_row_with_values_beside_the_domains(self):
        model = (UNKNOWNS, (("t", ("table", ("b", "a"), ((-7, 0), (2, 0), (2, 9)))),), ())
        for filling in itertools.product((-1, 0, 1), (0, 2, 5), (3,)):
            told = [sign_holds(model, ("row", "t", k), filling) for k in range(3)]
            self.assertEqual(told, [False, filling[:2] == (0, 2), False])

    def test_arguments_by_name(self):
        model = (UNKNOWNS, (), ())
        self.assertIs(sign_holds(model=model, sign=("is", "c", 3), filling=(0, 0, 3)), True)
        self.assertIs(check_sign(model=model, value=("is", "c", 3)), True)
