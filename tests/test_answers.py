"""[26], [27], [37]: solve, every, best, unbeaten, and classes."""

import random
import unittest

from aswritten.answers import best, classes, every, solve, unbeaten
from aswritten.errors import TooFar
from aswritten.judge import judge, trimmed
from aswritten.models import keeps, keeps_saying
from aswritten.search import all_of, first, parts, whole
from aswritten.turns import class_of, found
from aswritten.wishes import check_wishes, worths
from tests.chance import WORDS, model_by
from tests.searching import NONE_400, NONE_402, WHOLE_2000, WHOLE_2001, beside, fillings_of, free_model, late_model
from tests.searching import no_model, used_names

DEAD = ((("z", (0, 1)),), (("never", ("claim", ("or", (("is", "z", 3),)))),), ())
NO_HEAD = ((), (), (), ())


def values_of(model):
    return sum(len(domain) for x, domain in model[0])


def not_row(x, v):
    return (((("is", x, v), False), 1),), 1


def models_by_chance(seed, many, most=5):
    chance = random.Random(seed)
    for number in range(many):
        words = [chance.choice(WORDS) for _ in range(chance.randint(0, 4))]
        model = model_by(chance, words, [chance.choice(WORDS) for _ in range(chance.randint(0, 3))], (2, most))
        if all_of(model) <= 300:
            yield model


def wishes_by(chance, model):
    names = sorted(x for x, domain in model[0])
    wishes = []
    for _ in range(chance.randint(1, 3)):
        xs = sorted(chance.sample(names, chance.randint(0, len(names))))
        terms = tuple((x, chance.choice((-3, -2, -1, 1, 2, 3))) for x in xs)
        wishes.append((chance.randint(-5, 5), terms, chance.randint(0, 1)))
    check_wishes(model, tuple(wishes))
    return tuple(wishes)


class Papers(unittest.TestCase):
    def check_paper(self, model, asked, paper, choices, head=NO_HEAD):
        """The paper is taken, trimmed, has this head, and is not too long."""
        self.assertTrue(judge(model, asked, paper), (model, asked))
        self.assertEqual(trimmed(model, asked, paper), paper)
        self.assertEqual(paper[0], head)
        e = values_of(model)
        self.assertLessEqual(len(paper[1]), 1000 * (choices + 1) * (e + 1) * (e + 1))

    def check_one_part(self, model, paper, beside_it=()):
        used = used_names(model, paper)
        lots = [set(part) | {item[0] for items in model[1:] for item in items if used_in(item[1]) & set(part)}
                for part in parts(model)]
        self.assertTrue(any(used <= lot | set(beside_it) for lot in lots), used)

    def check_none(self, model, answer, choices):
        word, paper = answer
        self.assertEqual(word, "none")
        self.check_paper(model, ("none",), paper, choices)


def used_in(saying):
    names = set()

    def go(value):
        if isinstance(value, tuple):
            for item in value:
                go(item)
        elif isinstance(value, str):
            names.add(value)

    go(saying[1:])
    return names


class Solve(Papers):
    def test_by_chance(self):
        empty = 0
        for model in models_by_chance(26, 160):
            told = fillings_of(model)
            answer = solve(model)
            if told:
                self.assertEqual(answer[0], "filling")
                self.assertIn(answer[1], told)
            else:
                empty += 1
                self.check_none(model, answer, first(model))
                self.check_one_part(model, answer[1])
        self.assertGreater(empty, 40)

    def test_by_first(self):
        self.check_none(no_model(*NONE_400), solve(no_model(*NONE_400)), 400)
        model = late_model(6)
        self.assertEqual(solve(model)[0], "filling")
        self.assertTrue(keeps(model, solve(model)[1]))
        for model in (late_model(7), no_model(*NONE_402)):
            with self.assertRaises(TooFar):
                solve(model)

    def test_too_far_also_where_another_part_has_no_filling(self):
        for model in (beside(late_model(7), DEAD), beside(DEAD, late_model(7))):
            with self.assertRaises(TooFar):
                solve(model)
        self.check_none(beside(late_model(6), DEAD), solve(beside(late_model(6), DEAD)), 400)

    def test_parts_without_a_filling(self):
        model = beside(no_model(2, 3), no_model(4))
        self.check_none(model, solve(model), first(model))
        self.check_one_part(model, solve(model)[1])


class Every(Papers):
    def check(self, model):
        told = fillings_of(model)
        answers = every(model)
        self.assertEqual(len(answers), len(model[0]))
        for k, (x, domain) in enumerate(model[0]):
            self.assertEqual(tuple(v for v, answer in answers[k]), domain)
            for v, (word, thing) in answers[k]:
                if any(filling[k] == v for filling in told):
                    self.assertEqual((word, thing[k], thing in told), ("filling", v, True))
                else:
                    self.assertEqual(word, "never")
                    self.check_paper(model, ("row", not_row(x, v)), thing, whole(model))
                    self.check_one_part(model, thing, (x,))

    def test_by_chance(self):
        for model in models_by_chance(27, 110, 6):
            self.check(model)

    def test_several_parts_one_without_a_filling(self):
        self.check(beside(free_model(2, 3), DEAD))
        self.check(beside(no_model(2), no_model(3)))
        self.check(beside(free_model(2), ((("z", (0, 1, 2)), ("y", (1, 2))), (("s", ("unlike", ("z", "y"))), (
            "t", ("least", (("z", 1), ("y", 1)), 4)),), ())))

    def test_by_whole(self):
        answers = every(free_model(*WHOLE_2000))
        self.assertTrue(all(word == "filling" for pairs in answers for v, (word, thing) in pairs))
        for model in (free_model(*WHOLE_2001), beside(free_model(*WHOLE_2001), DEAD)):
            with self.assertRaises(TooFar):
                every(model)


class Best(Papers):
    def check(self, model, wishes):
        told = fillings_of(model)
        answer = best(model, wishes)
        if not told:
            self.check_none(model, answer, whole(model))
            return
        word, least, filling, paper = answer
        self.assertEqual((word, least), ("best", min(worths(model, wishes, one) for one in told)))
        self.assertIn(filling, told)
        self.assertEqual(worths(model, wishes, filling), least)
        asked = ("best", wishes, least)
        self.check_paper(model, asked, paper, whole(model), ((), (), wishes, (filling,)))
        for k in range(len(least)):
            for change in (-1, 1):
                other = least[:k] + (least[k] + change,) + least[k + 1:]
                self.assertFalse(judge(model, ("best", wishes, other), paper))

    def test_by_chance(self):
        chance = random.Random(28)
        for model in models_by_chance(28, 150, 6):
            self.check(model, wishes_by(chance, model))

    def test_soft_sayings_of_many_kinds_that_are_not_small(self):
        chance = random.Random(29)
        for word in WORDS:
            for _ in range(4):
                model = model_by(chance, (), (word,), (5, 6))
                pins = tuple((f"p{x}", ("claim", ("is", x, chance.choice(domain)))) for x, domain in model[0][1:])
                wide = tuple((x, tuple(sorted(set(domain) | set(range(6))))) for x, domain in model[0])
                if word not in ("bar", "product"):
                    model = (wide, pins, model[2])
                    self.check(model, ((0, (), 1), (0, ((model[0][0][0], 1),), 1)))

    def test_giving_up_soft_sayings(self):
        unknowns = (("x", (0, 1, 2)), ("y", (0, 1, 2)))
        soft = (("a", ("claim", ("is", "x", 0)), 4), ("b", ("claim", ("is", "y", 0)), 3),
                ("c", ("unlike", ("x", "y")), 6))
        model = (unknowns, (), soft)
        self.check(model, ((0, (), 1),))
        word, least, filling, paper = best(model, ((0, (), 1),))
        self.assertEqual(least, (3,))
        self.assertEqual([keeps_saying(model, s, filling) for s in "abc"], [True, False, True])

    def test_several_parts(self):
        chance = random.Random(30)
        model = beside(free_model(2, 2), beside(free_model(3, 2), free_model(4)))
        for _ in range(10):
            self.check(model, wishes_by(chance, model))
        model = beside(free_model(3), DEAD)
        self.check(model, ((0, (("x00", 1),), 0),))

    def test_by_whole(self):
        wishes = ((3, (("x00", -1),), 1),)
        answer = best(free_model(*WHOLE_2000), wishes)
        self.assertEqual(answer[:2], ("best", (-4,)))
        self.assertTrue(judge(free_model(*WHOLE_2000), ("best", wishes, (-4,)), answer[3]))
        for model in (free_model(*WHOLE_2001), beside(free_model(*WHOLE_2001), DEAD)):
            with self.assertRaises(TooFar):
                best(model, wishes)
        # very many fillings, in many parts
        names = [f"x{k}" for k in range(12)]
        model = (tuple((x, tuple(range(12))) for x in names), (), ())
        wishes = ((0, tuple(sorted((x, -2) for x in names)), 0), (0, (("x3", 5),), 1))
        answer = best(model, wishes)
        self.assertEqual(answer[:3], ("best", (-264, 55), (11,) * 12))
        self.assertTrue(judge(model, ("best", wishes, (-264, 55)), answer[3]))


class Unbeaten(Papers):
    def check(self, model, wishes):
        told = fillings_of(model)
        answer = unbeaten(model, wishes)
        if not told:
            self.check_none(model, answer, all_of(model))
            return
        word, pairs, paper = answer
        all_worths = {worths(model, wishes, one) for one in told}
        right = sorted(one for one in all_worths if not any(
            other != one and all(a <= b for a, b in zip(other, one)) for other in all_worths))
        self.assertEqual((word, [worth for worth, filling in pairs]), ("unbeaten", right))
        for worth, filling in pairs:
            self.assertIn(filling, told)
            self.assertEqual(worths(model, wishes, filling), worth)
        head = ((), (), wishes, tuple(filling for worth, filling in pairs))
        self.check_paper(model, ("unbeaten", wishes, tuple(right)), paper, all_of(model), head)
        self.assertFalse(judge(model, ("unbeaten", wishes, tuple(right[1:])), paper))

    def test_by_chance(self):
        chance = random.Random(31)
        for model in models_by_chance(31, 150):
            self.check(model, wishes_by(chance, model))

    def test_a_long_front(self):
        model = free_model(5, 5)
        self.check(model, ((0, (("x00", 1),), 0), (0, (("x00", -2), ("x01", 1)), 1)))
        self.check(beside(free_model(3), free_model(3)), ((0, (("x00", 1), ), 0), (0, (("o.x00", 1), ("x00", -1)), 0)))

    def test_by_all(self):
        wishes = ((0, (("x00", 1),), 0),)
        self.assertEqual(unbeaten(free_model(*WHOLE_2000), wishes)[1][0][0], (0,))
        for model in (free_model(*WHOLE_2001), beside(free_model(9, 9), free_model(12, 9))):
            with self.assertRaises(TooFar):
                unbeaten(model, wishes)
        # the part without a filling ends the search of the model itself
        model = beside(DEAD, free_model(*WHOLE_2001))
        self.check_none(model, unbeaten(model, ((0, (), 0),)), 0)


class Classes(unittest.TestCase):
    def test_the_example(self):
        model = ((("x", (0, 1)), ("y", (0, 1))), (("s", ("least", (("x", 1), ("y", 1)), 1)),), ())
        self.assertEqual(classes(model, found(model)), (((0, 1), (1, 0)), ((1, 1),)))
        self.assertEqual(classes(model, ()), (((0, 1),), ((1, 0),), ((1, 1),)))

    def test_by_chance(self):
        greater = 0
        for model in models_by_chance(37, 120):
            told = fillings_of(model)
            exchanges = found(model)[:6]
            lots = classes(model, exchanges)
            self.assertEqual(list(lots), sorted(set(lots)))
            self.assertEqual(sorted(filling for lot in lots for filling in lot), told)
            for lot in lots:
                self.assertEqual(class_of(model, exchanges, lot[-1]), lot)
            greater += any(len(lot) > 1 for lot in lots)
        self.assertGreater(greater, 10)

    def test_nothing_keeps_the_model_and_too_far(self):
        self.assertEqual(classes(DEAD, ()), ())
        self.assertEqual(len(classes(free_model(*WHOLE_2000), ())), 8 * 3 * 2 * 4 * 9)
        with self.assertRaises(TooFar):
            classes(free_model(*WHOLE_2001), ())
