"""[34], [35]: exchanges, where they lead, and which sayings and models they keep."""

import random
import unittest

from aswritten.models import keeps
from aswritten.turns import check_exchange, found, keeps_model, turned
from tests.chance import WORDS, model_by
from tests.samples import ODD_VALUES, all_tuples, changed_at_each_place

UNKNOWNS = (("x", (0, 1, 2)), ("y", (0, 1, 2)), ("z", (3, 5, 9)), ("u", (0, 1)), ("w", (4,)))
PLAIN = (UNKNOWNS, (), ())
SAME = ((0, 0), (1, 1), (2, 2))
XY = (("x", "y", SAME), ("y", "x", SAME))
TURN = (("x", "y", ((0, 1), (1, 0), (2, 2))), ("y", "z", ((0, 9), (1, 5), (2, 3))),
        ("z", "x", ((3, 0), (5, 2), (9, 1))))


def swap(*names, values=(0, 1), domain=(0, 1, 2)):
    a, b = values
    pairs = tuple((v, {a: b, b: a}.get(v, v)) for v in domain)
    return tuple((x, x, pairs) for x in names)


def change(x, y, domain=(0, 1, 2)):
    pairs = tuple((v, v) for v in domain)
    return tuple(sorted(((x, y, pairs), (y, x, pairs))))


class CheckExchange(unittest.TestCase):
    def test_right_ones(self):
        for value in ((), XY, TURN, swap("x"), swap("x", "y"), (("w", "w", ((4, 4),)),), swap("u", domain=(0, 1))):
            self.assertIs(check_exchange(PLAIN, value), True, value)

    def test_wrong_in_one_thing(self):
        wrong = (
            XY[:1], XY[1:], XY[::-1], (XY[0], XY[0]), (("x", "y", SAME), ("y", "y", SAME)),
            (("x", "y", SAME), ("y", "z", ((0, 3), (1, 5), (2, 9)))), (("x", "x", SAME[:2]),),
            (("x", "x", SAME[::-1]),),
            (("x", "x", SAME + ((3, 3),)),), (("x", "x", ((0, 0), (1, 1), (2, 1))),),
            (("x", "x", ((0, 0), (1, 1), (2, 3))),), (("x", "x", ((0, 0), (1, 1), (3, 2))),), (("q", "q", SAME),),
            (("u", "w", ((0, 4), (1, 4))), ("w", "u", ((4, 0),))),
            (("x", "u", ((0, 0), (1, 1), (2, 1))), ("u", "x", ((0, 0), (1, 1)))),
            (("x", "x", ((False, 0), (1, 1), (2, 2))),), (("x", "x", ((0, 0), (1, True), (2, 2))),),
            (("x", "x", ((0, 0, 0), (1, 1), (2, 2))),), (("x", "x", ((0,), (1, 1), (2, 2))),),
            (("x", "x", [(0, 0), (1, 1), (2, 2)]),), [XY[0], XY[1]], ("x", "x", SAME), (("x", "x", SAME, 0),),
        )
        for value in wrong:
            self.assertIs(check_exchange(PLAIN, value), False, value)

    def test_spoilt_at_each_place(self):
        for odd in (True, False, None, -1, 0, 1, 2, 3, "x", "z", "q", (), (0, 0), (("x",),)):
            for right in (XY, swap("u", domain=(0, 1))):
                for value in changed_at_each_place(right, odd):
                    self.assertIs(check_exchange(PLAIN, value), is_exchange(PLAIN, value), value)

    def test_odd_values(self):
        for value in ODD_VALUES:
            self.assertIs(check_exchange(PLAIN, value), value == (), value)
            self.assertIs(check_exchange(PLAIN, (("x", "x", value),)), False)
            self.assertIs(check_exchange(PLAIN, (value,)), False)
            self.assertIs(keeps_model(PLAIN, value), value == (), value)


def is_exchange(model, value):
    """Told by texts, in which True and 1 are different."""
    domains = {x: domain for x, domain in model[0]}
    if type(value) is not tuple:
        return False
    for item in value:
        if type(item) is not tuple or len(item) != 3 or type(item[0]) is not str or type(item[1]) is not str:
            return False
        if item[0] not in domains or item[1] not in domains or type(item[2]) is not tuple:
            return False
        if not all(type(pair) is tuple and len(pair) == 2 and type(pair[0]) is int and type(pair[1]) is int
                   for pair in item[2]):
            return False
        if [pair[0] for pair in item[2]] != list(domains[item[0]]):
            return False
        if sorted(pair[1] for pair in item[2]) != list(domains[item[1]]):
            return False
    names = [item[0] for item in value]
    return names == sorted(set(names)) and sorted(item[1] for item in value) == names


class Turned(unittest.TestCase):
    def test_examples(self):
        self.assertEqual(turned(PLAIN, (), (0, 1, 5, 0, 4)), (0, 1, 5, 0, 4))
        self.assertEqual(turned(PLAIN, XY, (0, 1, 5, 0, 4)), (1, 0, 5, 0, 4))
        # x has 0, led to 1 of y; y has 2, led to 3 of z; z has 5, led to 2 of x
        self.assertEqual(turned(PLAIN, TURN, (0, 2, 5, 1, 4)), (2, 1, 3, 1, 4))
        self.assertEqual(turned(model=PLAIN, exchange=swap("u", domain=(0, 1)), filling=(0, 2, 5, 1, 4)),
                         (0, 2, 5, 0, 4))

    def test_there_and_back(self):
        back = tuple(sorted((y, x, tuple(sorted((w, v) for v, w in pairs))) for x, y, pairs in TURN))
        self.assertTrue(check_exchange(PLAIN, back))
        for filling in all_tuples(UNKNOWNS):
            self.assertEqual(turned(PLAIN, back, turned(PLAIN, TURN, filling)), filling)
            self.assertEqual(turned(PLAIN, XY, turned(PLAIN, XY, filling)), filling)
        self.assertEqual(sorted(turned(PLAIN, TURN, filling) for filling in all_tuples(UNKNOWNS)), all_tuples(UNKNOWNS))


NAMES = (("a", (0, 1, 2)), ("b", (0, 1, 2)), ("c", (0, 1, 2)), ("d", (0, 1, 2)), ("e", (0, 1)), ("f", (7, 8, 9)))
SHIFT = (("a", "f", ((0, 7), (1, 8), (2, 9))), ("f", "a", ((7, 0), (8, 1), (9, 2))))


class KeepsModel(unittest.TestCase):
    def check(self, exchange, kept, *sayings):
        model = (NAMES, tuple((f"s{k}", saying) for k, saying in enumerate(sayings)), ())
        self.assertTrue(check_exchange(model, exchange), exchange)
        self.assertIs(keeps_model(model, exchange), kept, (exchange, sayings))
        if kept:
            for filling in all_tuples(NAMES):
                if keeps(model, filling):
                    self.assertTrue(keeps(model, turned(model, exchange, filling)))
        # soft sayings are not asked
        soft = (NAMES, (), tuple((f"s{k}", saying, 1) for k, saying in enumerate(sayings)))
        self.assertIs(keeps_model(soft, exchange), True)

    def test_least_and_same(self):
        for word in ("least", "same"):
            self.check(change("a", "b"), True, (word, (("a", 2), ("c", 1), ("b", 2)), 3))
            self.check(change("a", "b"), False, (word, (("a", 2), ("b", 1)), 3))
            self.check(change("a", "b"), False, (word, (("a", 2),), 3))
            self.check(change("a", "b"), True, (word, (("a", 2),), 3), (word, (("b", 2),), 3))
            self.check(change("a", "b"), False, (word, (("a", 2),), 3), (word, (("b", 2),), 4))
            self.check(swap("a"), False, (word, (("a", 2),), -100))
            self.check(SHIFT, False, (word, (("a", 2), ("f", 2)), -100))
            self.check(swap("c"), True, (word, (("a", 2),), 3))

    def test_each_as_often(self):
        one, other = ("least", (("a", 1),), 1), ("least", (("b", 1),), 1)
        self.check(change("a", "b"), False, one, one, other)
        self.check(change("a", "b"), True, one, one, other, other)

    def test_unlike(self):
        self.check(change("a", "b"), True, ("unlike", ("b", "c", "a")))
        self.check(change("a", "d"), False, ("unlike", ("a", "b", "c")))
        self.check(swap("a", "b", "c"), True, ("unlike", ("a", "b", "c")))
        self.check(swap("a", "b"), False, ("unlike", ("a", "b", "c")))
        self.check(SHIFT, False, ("unlike", ("a", "b", "f")))
        self.check(SHIFT, True, ("unlike", ("b", "c")))
        self.check(SHIFT, True, ("unlike", ("a",)), ("unlike", ("f",)))
        # values of e go where those of a go
        self.check(swap("a") + swap("e", domain=(0, 1)), True, ("unlike", ("a", "e")))
        self.check(swap("e", domain=(0, 1)), False, ("unlike", ("a", "e")))
        self.check(swap("a", values=(0, 2)), False, ("unlike", ("a", "e")))

    def test_counts(self):
        both = swap("a", "b")
        self.check(both, True, ("counts", ("b", "a"), ((0, 0, 1), (1, 0, 1))))
        self.check(both, False, ("counts", ("b", "a"), ((0, 0, 1), (1, 0, 2))))
        self.check(both, False, ("counts", ("b", "a"), ((0, 0, 1),)))
        self.check(both, True, ("counts", ("b", "a"), ((2, 0, 1),)))
        self.check(both, True, ("counts", ("b", "a"), ((0, 0, 1),)), ("counts", ("a", "b"), ((1, 0, 1),)))
        self.check(change("a", "b"), True, ("counts", ("b", "c", "a"), ((0, 1, 1),)))
        self.check(change("a", "d"), False, ("counts", ("b", "c", "a"), ((0, 1, 1),)))

    def test_counts_with_a_value_of_no_domain(self):
        self.check(swap("a", "b"), False, ("counts", ("b", "a"), ((2, 0, 1), (7, 0, 1))))
        self.check(change("a", "b"), True, ("counts", ("b", "a"), ((2, 0, 1), (7, 0, 1))))
        # 7 lies in a domain of f alone
        self.check(swap("f", values=(8, 9), domain=(7, 8, 9)), True, ("counts", ("f",), ((7, 0, 0),)))
        self.check(swap("f", values=(8, 9), domain=(7, 8, 9)), False, ("counts", ("f",), ((6, 0, 0), (7, 0, 0))))

    def test_table_and_bar(self):
        for word in ("table", "bar"):
            self.check(swap("a"), True, (word, ("a", "b"), ((0, 1), (1, 1), (2, 0))))
            self.check(swap("a"), False, (word, ("a", "b"), ((0, 1), (1, 2), (2, 0))))
            self.check(change("a", "b"), True, (word, ("a", "b"), ((0, 1), (1, 0), (2, 2))))
            self.check(change("a", "b"), False, (word, ("a", "b"), ((0, 1), (1, 2))))
            self.check(change("a", "b"), True, (word, ("a", "c"), ((0, 1),)), (word, ("c", "b"), ((1, 0),)))
            self.check(SHIFT, True, (word, ("a", "f"), ((0, 7), (1, 9), (2, 8))))
            self.check(SHIFT, False, (word, ("a", "f"), ((0, 8), (1, 9), (2, 7))))
            # each place has its own values
            self.check(swap("a") + swap("b", values=(1, 2)), True, (word, ("a", "b"), ((0, 1), (1, 2))))

    def test_rows_that_are_left_out(self):
        for word in ("table", "bar"):
            self.check(swap("a"), True, (word, ("a", "b"), ((-5, 1), (0, 1), (0, 7), (1, 1))))
            self.check(change("a", "b"), True, (word, ("a",), ((1,), (7,))), (word, ("b",), ((-9,), (1,), (8,))))
            self.check(SHIFT, True, (word, ("a",), ((0,), (9,))), (word, ("f",), ((0,), (7,), (10,))))

    def test_moves_that_are_left_out(self):
        moves = ((0, 0, 0), (0, 1, 0), (0, 2, 1), (1, 0, 1), (1, 1, 1))
        self.check(swap("a", "b"), True, ("machine", ("a", "b"), 0, moves, (1,)))
        self.check(swap("a", "b", values=(1, 2)), False, ("machine", ("a", "b"), 0, moves, (1,)))
        self.check(swap("a", "b"), True, ("machine", ("a", "b"), 0, ((0, -4, 3),) + moves + ((1, 7, 0),), (1,)))
        self.check(swap("a"), False, ("machine", ("a", "b"), 0, moves, (1,)))
        self.check(change("a", "b"), False, ("machine", ("a", "b"), 0, moves, (1,)))
        self.check(change("a", "b"), True, ("machine", ("a",), 0, ((0, 0, 1), (0, 7, 1)), (1,)),
                   ("machine", ("b",), 0, ((0, 0, 1), (1, 9, 1)), (1,)))
        self.check(change("a", "b"), False, ("machine", ("a",), 0, moves, (1,)), ("machine", ("b",), 0, moves, (0,)))
        self.check(change("a", "b"), False, ("machine", ("a",), 0, moves, (1,)), ("machine", ("b",), 1, moves, (1,)))
        # the value 7 lies in the domain of f
        self.check(swap("a"), True, ("machine", ("a", "f"), 0, ((0, 0, 0), (0, 1, 0), (0, 7, 1)), (1,)))
        self.check(swap("a"), False, ("machine", ("a", "f"), 0, ((0, 0, 0), (0, 1, 2), (0, 7, 1)), (1,)))
        self.check(swap("f", values=(7, 8), domain=(7, 8, 9)), False, ("machine", ("f",), 0, ((0, 7, 1),), (1,)))

    def test_pick_top_product(self):
        self.check(change("b", "c"), False, ("pick", "a", ("b", "c"), "d"))
        self.check(change("b", "c"), True, ("pick", "a", ("b", "c"), "d"), ("pick", "a", ("c", "b"), "d"))
        self.check(swap("a"), False, ("pick", "a", ("b", "c"), "d"))
        self.check(change("a", "b"), True, ("top", ("b", "c", "a"), "d"))
        self.check(change("a", "d"), False, ("top", ("b", "c", "a"), "d"))
        self.check(swap("a", "b", "d"), False, ("top", ("a", "b"), "d"))
        self.check(change("a", "b"), True, ("product", "a", "b", "c"))
        self.check(change("a", "c"), False, ("product", "a", "b", "c"))
        self.check(swap("a", "b", "c"), False, ("product", "a", "b", "c"))

    def test_ahead_works_round(self):
        self.check(change("a", "b"), False, ("ahead", ("a", "b"), ("c", "d")))
        self.check(change("a", "b"), True, ("ahead", ("a",), ("d",)), ("ahead", ("b",), ("d",)))
        self.check(swap("a", "c"), False, ("ahead", ("a",), ("c",)))
        self.check(change("a", "b"), True, ("works", ("a", "c", "b"), (2, 1, 2), (3, 4, 3), 5))
        self.check(change("a", "b"), False, ("works", ("a", "b"), (2, 1), (3, 3), 5))
        self.check(change("a", "b"), False, ("works", ("a", "b"), (2, 2), (3, 4), 5))
        self.check(change("a", "b"), True, ("works", ("a", "c"), (2, 1), (3, 4), 5),
                   ("works", ("c", "b"), (1, 2), (4, 3), 5))
        self.check(change("a", "b"), False, ("works", ("a",), (2,), (3,), 5), ("works", ("b",), (2,), (3,), 6))
        self.check(swap("a", values=(0, 2)), False, ("works", ("a",), (2,), (3,), 5))
        self.check(change("a", "b"), False, ("round", ("a", "b", "c")))
        self.check(change("a", "b"), True, ("round", ("a", "b")), ("round", ("b", "a")))
        self.check(swap("a", "b", "c"), False, ("round", ("a", "b", "c")))

    def test_claims(self):
        self.check(swap("a"), True, ("claim", ("or", (("is", "a", 0), ("is", "a", 1)))))
        self.check(swap("a"), False, ("claim", ("or", (("is", "a", 0), ("is", "a", 2)))))
        self.check(swap("a"), False, ("claim", ("or", (("is", "a", 0), ("is", "a", 1), ("from", "a", -9)))))
        self.check(swap("a"), False, ("claim", ("or", (("is", "a", 0), ("is", "a", 1), ("is", "a", 9)))))
        self.check(change("a", "b"), True, ("claim", ("and", (("from", "b", 1), ("from", "a", 1), ("is", "c", 9)))))
        self.check(change("a", "b"), True, ("claim", ("not", ("or", (("is", "a", 9), ("is", "b", 9))))))
        self.check(change("a", "b"), False, ("claim", ("not", ("or", (("is", "a", 9), ("is", "b", 8))))))
        self.check(SHIFT, True, ("claim", ("or", (("is", "a", 1), ("is", "f", 8)))))
        self.check(SHIFT, False, ("claim", ("or", (("is", "a", 1), ("is", "f", 7)))))
        self.check(SHIFT, False, ("claim", ("or", (("is", "a", 7), ("is", "f", 7)))))
        # claims of an "and" as often as they stand
        self.check(change("a", "b"), False, ("claim", ("and", (("is", "a", 1), ("is", "a", 1), ("is", "b", 1)))))
        self.check(change("a", "b"), True, ("claim", ("and", (("or", (("is", "a", 1), ("not", ("is", "b", 2)))),
                                                               ("or", (("not", ("is", "a", 2)), ("is", "b", 1)))))))
        self.check(change("a", "b"), False, ("claim", ("and", (("or", (("is", "a", 1), ("not", ("is", "b", 2)))),
                                                                ("or", (("not", ("is", "a", 2)), ("is", "b", 0)))))))

    def test_when(self):
        claim = ("or", (("is", "e", 0), ("is", "c", 0)))
        self.check(change("a", "b"), True, ("when", claim, ("unlike", ("b", "a"))))
        self.check(change("a", "b"), False, ("when", claim, ("unlike", ("c", "a"))))
        self.check(swap("e", domain=(0, 1)), False, ("when", claim, ("unlike", ("b", "a"))))
        self.check(swap("e", domain=(0, 1)), True, ("when", ("is", "e", 0), ("unlike", ("b", "a"))),
                   ("when", ("is", "e", 1), ("unlike", ("a", "b"))))
        self.check(swap("a", "b"), True, ("when", ("is", "e", 0), ("unlike", ("b", "a"))))
        self.check(swap("a", "b"), False, ("when", ("from", "a", 0), ("unlike", ("b", "a"))))
        self.check(swap("a", "b"), True, ("when", ("is", "e", 1),
                                          ("machine", ("a", "b"), 0, ((0, 0, 0), (0, 1, 0), (0, 5, 0)), (0,))))
        self.check(swap("a"), True, ("when", ("is", "e", 1), ("table", ("a", "b"), ((-1, 0), (0, 1), (1, 1)))))

    def test_what_is_kept_is_kept_by_all_fillings(self):
        chance = random.Random(35)
        met = 0
        for number in range(400):
            words = [chance.choice(WORDS) for _ in range(chance.randint(1, 2))]
            model = model_by(chance, words, (), (2, 4))
            for exchange in found(model):
                met += 1
                for filling in all_tuples(model[0]):
                    self.assertEqual(keeps(model, filling), keeps(model, turned(model, exchange, filling)))
        self.assertGreater(met, 100)

    def test_no_exchange(self):
        model = (NAMES, (), ())
        self.assertIs(keeps_model(model, ()), True)
        for value in (change("a", "b")[:1], change("a", "b")[::-1], True, None, 1):
            self.assertIs(keeps_model(model=model, value=value), False)
