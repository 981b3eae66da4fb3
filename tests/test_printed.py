"""[48], [49]: printed, and clashes in lines."""

import itertools
import random
import unittest

from aswritten.errors import BadText, TooFar
from aswritten.judge import judge, trimmed
from aswritten.keeping import renamed
from aswritten.models import check_model
from aswritten.texts import flatten, line_clashes, printed
from aswritten.wishes import check_wishes
from tests.chance import WORDS, model_by
from tests.samples import model_of_all_kinds
from tests.searching import NONE_400, NONE_402, fillings_of, no_model
from tests.test_answers import wishes_by
from tests.test_general import greatest_model


def new_names(model):
    return tuple((item[0], f"{letter}{k}") for letter, items in zip("ust", model) for k, item in enumerate(items))


def renamed_wishes(wishes, names):
    new = dict(names)
    return tuple((constant, tuple(sorted((new[x], w) for x, w in terms)), prices) for constant, terms, prices in wishes)


class Printed(unittest.TestCase):
    def check(self, model, wishes):
        names = new_names(model)
        text = printed(model, wishes)
        told, told_wishes, places = flatten(text)
        self.assertEqual(told, renamed(model, names))
        self.assertEqual(told_wishes, renamed_wishes(wishes, names))
        # each in a line of its own
        self.assertEqual(sorted(name for name, line in places), sorted(new for old, new in names))
        self.assertEqual(len({line for name, line in places}), len(places))
        lines = dict(places)
        in_order = [lines[item[0]] for items in told for item in items]
        self.assertEqual(in_order[:len(model[0])], sorted(in_order[:len(model[0])]))
        again = printed(told, told_wishes)
        self.assertEqual(flatten(again)[:2], (told, told_wishes))
        self.assertEqual(again, text)

    def test_models_of_all_kinds(self):
        self.check(model_of_all_kinds(), ((0, (), 0),))
        self.check(model_of_all_kinds(), ((-3, (("a", -2), ("b", 1)), 1), (1000000, (), 0), (-1000000, (("c", 100),), 0)))
        self.check(greatest_model(), ((0, (), 1),))

    def test_by_chance(self):
        chance = random.Random(48)
        for _ in range(300):
            words = [chance.choice(WORDS) for _ in range(chance.randint(0, 6))]
            model = model_by(chance, words, [chance.choice(WORDS) for _ in range(chance.randint(0, 3))])
            self.check(model, wishes_by(chance, model))

    def test_many_names(self):
        # u10 comes before u2 in the order of names
        unknowns = tuple((f"n{chr(122 - k)}", (-k - 1, 0, 200)) for k in range(24))
        names = [x for x, domain in unknowns]
        sayings = tuple((f"s.{k}", ("least", ((names[k % 24], -1), (names[(k + 5) % 24], 100)), -1000000 + k)) for k in range(40))
        wishes = ((0, tuple(sorted((x, k + 1) for k, x in enumerate(names[:12]))), 0),)
        model = (unknowns, sayings, (("soft", ("same", ((names[3], -100),), 1000000), 100),))
        check_model(model)
        check_wishes(model, wishes)
        self.check(model, wishes)
        self.check(model, ((5, (), 1), (0, ((names[0], -1),), 0), (-1, ((names[1], 1),), 1)))

    def test_empty_things(self):
        unknowns = (("a", (-5,)), ("b", (0, 1)))
        claim = ("and", (("or", ()), ("not", ("and", ())), ("from", "a", -200), ("is", "b", -1)))
        self.check((unknowns, (("t", ("table", ("a",), ())), ("r", ("bar", ("a", "b"), ((-200, 200),))), (
            "m", ("machine", ("a",), 11, (), ())), ("c", ("claim", claim)), ("w", ("when", claim, ("table", ("b",), ()))),
            ("n", ("machine", ("b",), 0, ((0, -200, 11),), (0, 11)))), ()), ((0, (), 0),))


HEAD = "set row: a b\nunknown x(row): 0..2\nunknown z: 0..2\n"


class LineClashes(unittest.TestCase):
    def check(self, text):
        lists = line_clashes(text)
        model, wishes, places = flatten(text)
        numbers = dict(places)
        asked = sorted({numbers[s] for s, saying in model[1]})

        def model_with(lot):
            return (model[0], tuple(item for item in model[1] if numbers[item[0]] in lot), model[2])

        lots = [lot for many in range(len(asked) + 1) for lot in itertools.combinations(asked, many)]
        told = {lot: fillings_of(model_with(lot)) for lot in lots}
        rest = {lot: tuple(k for k in asked if k not in lot) for lot in lots}
        clashing = [lot for lot in lots if not told[lot]]
        giving = [lot for lot in lots if told[rest[lot]]]
        for right, pairs in ((clashing, lists[0]), (giving, lists[1])):
            least = sorted(lot for lot in right if not any(set(other) < set(lot) for other in right))
            self.assertEqual([lot for lot, thing in pairs], least)
        for lot, paper in lists[0]:
            self.assertTrue(judge(model_with(lot), ("none",), paper))
            self.assertEqual(trimmed(model_with(lot), ("none",), paper), paper)
        for lot, filling in lists[1]:
            self.assertEqual(filling, told[rest[lot]][0])
        return [lot for lot, paper in lists[0]], lists[1]

    def test_lines_for_several_places(self):
        self.assertEqual(self.check(HEAD + "s for i in row: x(i) >= z\n\nt: z >= 1\nu: x(a) + x(b) <= 1\nsoft 3 v: z = 0"),
                         ([(4, 6, 7)], (((4,), (0, 0, 1)), ((6,), (0, 0, 0)), ((7,), (1, 1, 1)))))
        self.check(HEAD + "s for i in row: x(i) >= 1\nt: x(a) = 0\nu: x(b) = 0\nv: z = 3")

    def test_lines_that_are_not_asked(self):
        filling = ((), (0, 0, 0))
        self.assertEqual(line_clashes(HEAD), ((), (filling,)))
        self.assertEqual(line_clashes(HEAD + "soft 3 s: z = 2\nt for i in row if i < 0: z = 3"), ((), (filling,)))
        lots, givings = self.check(HEAD + "soft 3 s: z = 2\nt for i in row if i < 0: z = 3\nu: z = 3\nwish z")
        self.assertEqual((lots, givings), ([(6,)], (((6,), (0, 0, 0)),)))

    def test_by_chance(self):
        chance = random.Random(49)
        many = 0
        for _ in range(60):
            lines = [f"s{k} for i in row: x(i) {chance.choice(('=', '>=', '<='))} {chance.choice((0, 1, 2, 'z', '2 - z'))}"
                     for k in range(3)]
            lines += [f"t{k}: {chance.choice(('z >= 1', 'z <= 1', 'unlike x(a), z', 'unlike x(a), x(b)', 'z = 2'))}" for k in range(3)]
            chance.shuffle(lines)
            lots, givings = self.check(HEAD + "\n".join(lines))
            many = max(many, len(lots))
        self.assertGreater(many, 2)

    def test_errors(self):
        lines = [f"s{k}: z = {k}" for k in range(7)]
        self.assertEqual(len(line_clashes(HEAD + "\n".join(lines[:6]))[0]), 6)
        with self.assertRaises(TooFar):
            line_clashes(HEAD + "\n".join(lines))
        with self.assertRaises(BadText) as caught:
            line_clashes(HEAD + "\n".join(lines) + "\n?")
        self.assertEqual(caught.exception.line, 11)
        with self.assertRaises(BadText) as caught:
            line_clashes("set row: a\n")
        self.assertEqual(caught.exception.line, 2)

    def test_too_far_by_first_of_some_lot(self):
        # three lines: without the pin 400 choices are made, or 402
        for sizes in (NONE_400, NONE_402):
            text = printed(no_model(*sizes), ((0, (), 0),)) + "\npin: u0 = 0"
            if sizes == NONE_400:
                self.assertEqual([lot for lot, paper in line_clashes(text)[0]], [(7, 8, 9)])
            else:
                with self.assertRaises(TooFar):
                    line_clashes(text)
