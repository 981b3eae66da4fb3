"""[42] to [44]: least clashes and least givings-up."""

import itertools
import random
import unittest

from aswritten.clashing import clashes, in_all, in_none, judge_clashes, part_model
from aswritten.errors import TooFar
from aswritten.judge import judge, trimmed
from aswritten.models import keeps
from aswritten.search import all_fillings, all_of, first
from tests.chance import WORDS, model_by
from tests.samples import ODD_VALUES, changed_at_each_place, nested
from tests.searching import NONE_400, NONE_402, fillings_of, no_model

EXAMPLE = ((("x", (0, 1, 2)),), (("p", ("least", (("x", 1),), 1)), ("q", ("least", (("x", -1),), 0)),
                                 ("r", ("least", (("x", 1),), 2))), ())
NO_HEAD = ((), (), (), ())


def lots_of(asked):
    return [lot for many in range(len(asked) + 1) for lot in itertools.combinations(asked, many)]


def least_by_words(lots):
    return sorted(lot for lot in lots if not any(set(other) < set(lot) for other in lots))


class PartModels(unittest.TestCase):
    def test_firm_and_asked_sayings(self):
        soft = (("w", ("unlike", ("x",)), 2),)
        model = (EXAMPLE[0], EXAMPLE[1] + (("firm", ("unlike", ("x",))),), soft)
        p, q, r, firm = model[1]
        self.assertEqual(part_model(model, ("p", "q", "r"), ("q",)), (model[0], (q, firm), soft))
        self.assertEqual(part_model(model, ("p", "q", "r"), ()), (model[0], (firm,), soft))
        self.assertEqual(part_model(model, ("p", "q", "r"), ("p", "q", "r")), model)
        self.assertEqual(part_model(model, ("q",), ()), (model[0], (p, r, firm), soft))


class Clashes(unittest.TestCase):
    def check(self, model, asked):
        lists = clashes(model, asked)
        self.assertEqual(len(lists), 2)
        told = {lot: fillings_of(part_model(model, asked, lot)) for lot in lots_of(asked)}
        rest = {lot: tuple(s for s in asked if s not in lot) for lot in told}
        self.assertEqual([lot for lot, paper in lists[0]], least_by_words([lot for lot in told if not told[lot]]))
        self.assertEqual([lot for lot, filling in lists[1]], least_by_words([lot for lot in told if told[rest[lot]]]))
        for lot, paper in lists[0]:
            inner = part_model(model, asked, lot)
            self.assertTrue(judge(inner, ("none",), paper))
            self.assertEqual(trimmed(inner, ("none",), paper), paper)
            self.assertEqual(paper[0], NO_HEAD)
        for lot, filling in lists[1]:
            self.assertEqual(filling, told[rest[lot]][0])
        self.assertIs(judge_clashes(model, asked, lists), True)
        lots = [lot for lot, paper in lists[0]]
        self.assertEqual(in_all(lists), tuple(s for s in asked if lots and all(s in lot for lot in lots)))
        self.assertEqual(in_none(asked, lists), tuple(s for s in asked if not any(s in lot for lot in lots)))
        return lists

    def test_by_chance(self):
        chance = random.Random(42)
        sizes = set()
        for _ in range(150):
            words = [chance.choice(WORDS) for _ in range(chance.randint(2, 6))]
            model = model_by(chance, words, [chance.choice(WORDS)][:chance.randint(0, 1)], (3, 4))
            names = sorted(s for s, saying in model[1])
            asked = tuple(sorted(chance.sample(names, chance.randint(1, len(names)))))
            lists = self.check(model, asked)
            sizes.add((len(lists[0]), max((len(lot) for lot, paper in lists[0]), default=0)))
        self.assertGreater(len(sizes), 6)

    def test_the_example(self):
        lists = self.check(EXAMPLE, ("p", "q", "r"))
        self.assertEqual([lot for lot, paper in lists[0]], [("p", "q"), ("q", "r")])
        self.assertEqual(lists[1], ((("p", "r"), (0,)), (("q",), (2,))))
        self.assertEqual(in_all(lists), ("q",))
        self.assertEqual(in_none(("p", "q", "r"), lists), ())

    def test_a_filling_and_firm_sayings_that_clash(self):
        model = (EXAMPLE[0], EXAMPLE[1][::2], ())
        self.assertEqual(clashes(model, ("p", "r")), ((), (((), (2,)),)))
        self.assertEqual(self.check(model, ("p",)), ((), (((), (2,)),)))
        firm = (EXAMPLE[0], EXAMPLE[1] + (("s", ("unlike", ("x",))),), ())
        lists = self.check(firm, ("s",))
        self.assertEqual(([lot for lot, paper in lists[0]], lists[1]), ([()], ()))
        self.assertEqual((in_all(lists), in_none(("s",), lists)), ((), ("s",)))
        self.assertEqual(in_all(((), (((), (2,)),))), ())
        self.assertEqual(in_none(("p", "r"), ((), (((), (2,)),))), ("p", "r"))

    def test_names_in_all_and_in_none(self):
        lists = (((("a", "c", "e"), 0), (("b", "c", "e"), 0)), ())
        self.assertEqual(in_all(lists), ("c", "e"))
        self.assertEqual(in_none(("a", "b", "c", "d", "e", "f"), lists), ("d", "f"))

    def test_too_far(self):
        # with the sayings of the pigeons alone 400 choices are made, and with others that are asked fewer
        model = no_model(*NONE_400)
        pin = ("pin", ("claim", ("is", "x0", 0)))
        near = (model[0], model[1] + (pin,), model[2])
        self.assertEqual(first(part_model(near, ("pin",), ())), 400)
        self.assertEqual([lot for lot, paper in clashes(near, ("pin",))[0]], [()])
        model = no_model(*NONE_402)
        far = (model[0], model[1] + (pin,), model[2])
        self.assertLess(first(far), 400)
        with self.assertRaises(TooFar):
            clashes(far, ("pin",))
        self.assertEqual([lot for lot, paper in clashes(far, ("s0", "s1"))[0]], [("s0", "s1")])
        # the greater lot alone
        with self.assertRaises(TooFar):
            clashes(model, ("s0",))

    def test_dropped_and_further_sayings(self):
        chance = random.Random(44)
        for _ in range(40):
            words = [chance.choice(WORDS) for _ in range(5)]
            model = model_by(chance, words, (), (3, 4))
            asked = ("s0", "s1", "s2", "s4")
            if all_of((model[0], (), ())) > 2000:
                continue
            lots = [lot for lot, paper in clashes(model, asked)[0]]
            dropped = (model[0], tuple(item for item in model[1] if item[0] != "s1"), ())
            less = [lot for lot, paper in clashes(dropped, ("s0", "s2", "s4"))[0]]
            self.assertEqual(less, [lot for lot in lots if "s1" not in lot])
            self.assertLessEqual(set(less), set(lots))


class JudgeClashes(unittest.TestCase):
    asked = ("p", "q", "r")

    def test_other_papers_and_fillings(self):
        lots, givings = clashes(EXAMPLE, self.asked)
        (one, paper), (two, other) = lots
        longer = (NO_HEAD, (("given", ("one", "x", 0)),) + tuple(self.moved(step) for step in paper[1]))
        self.assertTrue(judge_clashes(EXAMPLE, self.asked, (((one, longer), (two, other)), givings)))
        model = (EXAMPLE[0] + (("y", (0, 1)),),) + EXAMPLE[1:]
        lots, givings = clashes(model, self.asked)
        self.assertEqual(givings, ((("p", "r"), (0, 0)), (("q",), (2, 0))))
        self.assertTrue(judge_clashes(model, self.asked, (lots, ((("p", "r"), (0, 1)), (("q",), (2, 1))))))
        for filling in ((1, 0), (0, 2), (0,), (0, 0, 0), (False, 0), None, ("0", 0)):
            self.assertIs(judge_clashes(model, self.asked, (lots, ((("p", "r"), filling), givings[1]))), False)

    def moved(self, step):
        if step[0] == "add":
            return ("add", tuple((number + 1, m) for number, m in step[1]))
        if step[0] == "led":
            return ("led", step[1], tuple(number + 1 for number in step[2]))
        return step

    def test_lists_that_are_wrong_in_one_thing(self):
        lots, givings = clashes(EXAMPLE, self.asked)
        (one, paper), (two, other) = lots
        wrong = [(lots[:1], givings), (lots[1:], givings), (lots, givings[:1]), (lots, givings[1:]), (lots[::-1], givings),
                 (lots, givings[::-1]), (lots + lots[1:], givings), (lots, givings[:1] + givings), ((), givings), (lots, ()),
                 (lots + ((("q",), other),), givings), (((("p", "q", "r"), paper), lots[1]), givings),
                 (((("q", "p"), paper), lots[1]), givings), (((("p", "p", "q"), paper), lots[1]), givings),
                 (((("p", "z"), paper), lots[1]), givings), (((one, other), lots[1]), givings),
                 (((one, paper), (two, paper)), givings), ((lots[0] + (1,), lots[1]), givings),
                 (lots, ((("p", "q", "r"), (0,)), givings[1])), (lots, ((("p",), (0,)), givings[1])),
                 (lots, ((("p", "r"), (2,)), givings[1])), (lots, givings + ((("r",), (0,)),)), (givings, lots),
                 (lots,), (lots, givings, ()), [lots, givings], (list(lots), givings)]
        for value in wrong:
            self.assertIs(judge_clashes(EXAMPLE, self.asked, value), False, value)
        self.assertIs(judge_clashes(EXAMPLE, self.asked, (lots, givings)), True)
        self.assertIs(judge_clashes(EXAMPLE, ("p", "q"), (lots, givings)), False)
        self.assertIs(judge_clashes((EXAMPLE[0], EXAMPLE[1][:2], ()), self.asked, (lots, givings)), False)

    def test_lots_that_are_not_least_in_one_list(self):
        model = (EXAMPLE[0], EXAMPLE[1][:2] + (("r", ("unlike", ("x",))),), ())
        (pair,), givings = clashes(model, self.asked)
        self.assertEqual((pair[0], [lot for lot, filling in givings]), (("p", "q"), [("p",), ("q",)]))
        self.assertTrue(judge_clashes(model, self.asked, ((pair,), givings)))
        self.assertFalse(judge_clashes(model, self.asked, ((pair, (("p", "q", "r"), pair[1])), givings)))
        more = (givings[0], (("p", "r"), givings[0][1]), givings[1])
        self.assertFalse(judge_clashes(model, self.asked, ((pair,), more)))

    def test_papers_of_other_lots_are_not_enough(self):
        # each list is right for the other one, but a filling shows that it is no clash
        lots, givings = clashes(EXAMPLE, self.asked)
        paper = lots[0][1]
        for value in (((((), paper),), ()), ((), (((), (0,)),)), (((("q",), paper),), ((("q",), (2,)),))):
            self.assertIs(judge_clashes(EXAMPLE, self.asked, value), False)

    def test_any_values(self):
        lists = clashes(EXAMPLE, self.asked)
        for value in ODD_VALUES:
            for one in (value, (value, value), (lists[0], value), (value, lists[1]), ((value,), lists[1]),
                        (((value, value),), lists[1]), (((("p", "q"), value), lists[0][1]), lists[1]),
                        ((((value,), lists[0][0][1]),), lists[1]), (lists[0], ((("p", "r"), value), lists[1][1]))):
                if one != lists and repr(value) not in ("(0,)",):
                    self.assertIs(judge_clashes(EXAMPLE, self.asked, one), False)
        for value in changed_at_each_place(lists, True):
            self.assertIs(judge_clashes(EXAMPLE, self.asked, value), False, value)
        self.assertIs(judge_clashes(EXAMPLE, self.asked, nested(29, (0,) * 19000)), False)
        keeping = [filling for filling in all_fillings((EXAMPLE[0], EXAMPLE[1][1:2], ())) if keeps(EXAMPLE, filling)]
        self.assertEqual(keeping, [])
