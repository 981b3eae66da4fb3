"""[14]: heads of papers, right and wrong in one thing; values of any form."""

import unittest

from aswritten.judge import first_fault, judge
from tests.notes import row
from tests.samples import ODD_VALUES, changed_at_each_place, model_of_all_kinds, nested

UNKNOWNS = (("x", (0, 1, 2)), ("y", (0, 1, 2)), ("z", (4, 7)))
MODEL = (UNKNOWNS, (("d", ("unlike", ("x", "y"))),), (("k", ("least", (("z", 1),), 5), 3),))
CHANGE = (("x", "y", ((0, 0), (1, 1), (2, 2))), ("y", "x", ((0, 0), (1, 1), (2, 2))))
TURN = (("z", "z", ((4, 7), (7, 4))),)
LONE = (("x", "x", ((0, 1), (1, 0), (2, 2))),)
WISH = (0, (("x", 1), ("z", 2)), 1)
HEAD = (("x", "y", "z"), (CHANGE, TURN), (WISH, WISH), ((0, 1, 4), (2, 2, 7)))
STEPS = (("given", ("one", "x", 0)),)
ASKED = ("always", row("-> is x 0, is x 1, is x 2"))


class Heads(unittest.TestCase):
    def fault(self, head, steps=STEPS):
        told = first_fault(MODEL, ASKED, (head, steps))
        self.assertIs(judge(MODEL, ASKED, (head, steps)), told is None)
        return told

    def test_right_ones(self):
        for k in range(4):
            self.assertIsNone(self.fault(HEAD))
            self.assertIsNone(self.fault(((), (), (), ())[:k] + HEAD[k:] if k != 1 else ((), ((),)) + HEAD[2:]))
        self.assertIsNone(self.fault((("z",), (TURN,), (), ())))
        self.assertIsNone(self.fault((("z", "x", "y"), (TURN, TURN, ()), (WISH,) * 3, ((0, 0, 4),) * 30)))
        self.assertIsNone(self.fault(((), (), (), ())))

    def test_orders(self):
        for order in (("x", "x"), ("x", "q"), ("x", 1), ("x", None), "xy", ["x"], ("x", ("y",)), ("d",), 1, None, True):
            self.assertEqual(self.fault((order, (), (), ())), -1, order)

    def test_exchanges(self):
        for exchanges in ((CHANGE[:1],), (CHANGE[::-1],), (LONE,), CHANGE, (None,), (True,), None, [CHANGE], 0,
                          (CHANGE, LONE)):
            self.assertEqual(self.fault((("x", "y", "z"), exchanges, (), ())), -1, exchanges)

    def test_at_most_12_exchanges(self):
        self.assertIsNone(self.fault((("z",), (TURN,) * 12, (), ())))
        self.assertEqual(self.fault((("z",), (TURN,) * 13, (), ())), -1)
        self.assertEqual(self.fault((("z",), ((),) * 13, (), ())), -1)

    def test_exchanges_name_unknowns_of_the_order_alone(self):
        for order, right in ((("x", "y"), True), (("y", "x"), True), (("x",), False), (("x", "z"), False), ((), False)):
            self.assertEqual(self.fault((order, (CHANGE,), (), ())), None if right else -1)
        self.assertEqual(self.fault((("x", "y"), (CHANGE, TURN), (), ())), -1)

    def test_wishes(self):
        for wishes in ((WISH,) * 4, (WISH, None), WISH, ((0, (("z", 1), ("x", 1)), 0),), ((0, (), True),),
                       ((False, (), 0),),
                       ((0, (("q", 1),), 0),), None, [WISH], 0, ((0, (), 2),)):
            self.assertEqual(self.fault(((), (), wishes, ())), -1, wishes)
        for many in range(4):
            self.assertIsNone(self.fault(((), (), (WISH,) * many, ())))

    def test_fillings(self):
        for fillings in (((0, 1),), ((0, 1, 4, 4),), ((0, 1, 5),), ((0, 1, True),), ((False, 1, 4),), ((0, True, 4),),
                         (0, 1, 4),
                         (None,), None, [(0, 1, 4)], ((0, 1, 4), None), ([0, 1, 4],), (("0", 1, 4),), 7):
            self.assertEqual(self.fault(((), (), (), fillings)), -1, fillings)
        # fillings need not keep the model
        self.assertIsNone(self.fault(((), (), (), ((0, 0, 4),))))

    def test_other_values(self):
        for value in ODD_VALUES:
            self.assertEqual(first_fault(MODEL, ASKED, value), -1, value)
            self.assertIs(judge(MODEL, ASKED, value), False)
            self.assertEqual(self.fault(value), -1, value)
            self.assertEqual(first_fault(MODEL, ASKED, (value, ())), -1)
            told = self.fault(((), (), (), ()), value)
            if type(value) is tuple:
                self.assertEqual(told, 0, value)
            else:
                self.assertEqual(told, -1, value)
        for value in ((), (HEAD,), (HEAD, STEPS, ()), [HEAD, STEPS], (HEAD, list(STEPS)), (list(HEAD), STEPS),
                      (HEAD[:3], STEPS),
                      (HEAD + ((),), STEPS), (HEAD, None), (HEAD, 0), (None, None), False, 0):
            self.assertEqual(first_fault(MODEL, ASKED, value), -1, value)

    def test_spoilt_at_each_place(self):
        # what comes is right or wrong, and never an error; a wrong head is found before a wrong step
        for odd in (None, True, 0, "x", ()):
            for value in changed_at_each_place((HEAD, (None,)), odd):
                told = first_fault(MODEL, ASKED, value)
                self.assertIn(told, (-1, 0), value)

    def test_an_empty_tuple_of_steps(self):
        self.assertEqual(self.fault(HEAD, ()), 0)
        self.assertIs(judge(MODEL, ("none",), (((), (), (), ()), ())), False)

    def test_deeply_nested_values(self):
        model = model_of_all_kinds()
        for inner in ((), None, 0, "a", True):
            for value in (nested(30, inner), (nested(28, inner), nested(28, inner)),
                          (((), (), (), ()), (nested(27, inner),)),
                          (((), (), (), ()), (("told", "s.bar", nested(25, inner)),)),
                          (((), (), (), ()), (("given", nested(25, inner)),)), (((), (), nested(26, inner), ()), ()),
                          (((), (), (), ()), (("add", nested(25, inner)),)), ((nested(26, inner), (), (), ()), ()),
                          (((), nested(26, inner), (), ()), ()), (((), (), (), nested(26, inner)), ())):
                self.assertIs(judge(model, ("none",), value), False)
                self.assertIn(first_fault(model, ("none",), value), (-1, 0))
