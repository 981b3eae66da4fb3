"""[15]: each sort of step, right and wrong in one thing; marks, and which steps use which."""

import itertools
import random
import tracemalloc
import unittest

from aswritten.judge import first_fault, judge, rows_of
from aswritten.models import is_small, keeps_saying, unknowns_of
from aswritten.rows import denial, norm, row_holds
from aswritten.turns import turned
from tests.chance import WORDS, model_by
from tests.notes import paper, row, rows, sign, total
from tests.samples import ODD_VALUES, all_tuples, changed_at_each_place
from tests.test_rows import is_row

UNKNOWNS = (("x", (0, 1, 2)), ("y", (0, 1, 2)))
SAYINGS = (("a", ("least", (("x", 1), ("y", 1)), 2)), ("d", ("unlike", ("x", "y"))),
           ("w", ("when", ("is", "x", 1), ("least", (("y", 1),), 1))))
MODEL = (UNKNOWNS, SAYINGS, (("k", ("unlike", ("y", "x")), 2),))
NO_HEAD = ((), (), (), ())
CHANGE = (("x", "y", ((0, 0), (1, 1), (2, 2))), ("y", "x", ((0, 0), (1, 1), (2, 2))))
GREAT = 10 ** 60 - 1


def fault(*steps, head=NO_HEAD, model=MODEL):
    """The number of the first faulty step, or the number of steps if all are right."""
    told = first_fault(model, ("row", ((), 7)), (head, steps))
    assert type(told) is int
    return told


def last(*steps, head=NO_HEAD, model=MODEL):
    """The row and the marks of the last one of right steps."""
    assert fault(*steps, head=head, model=model) == len(steps), steps
    return rows_of(model, ("row", ((), 7)), (head, steps))[-1]


class Steps(unittest.TestCase):
    def test_values_that_are_no_steps(self):
        for value in ODD_VALUES + (("given",), ("better", 0), ("turned",), ("add", ((0, 1),), 0),
                                   ("GIVEN", ("one", "x", 0))):
            self.assertEqual(fault(value), 0, value)
            self.assertEqual(fault(("given", ("one", "x", 0)), value), 1, value)

    def test_the_first_of_several_faults(self):
        right, wrong = ("given", ("one", "x", 0)), ("given", ("one", "z", 0))
        self.assertEqual(fault(right, right, wrong, right, wrong), 2)
        self.assertEqual(fault(wrong, None, right), 0)
        self.assertEqual(fault(right, ("trim", 1), ("trim", 9)), 1)
        self.assertEqual(fault(right, right), 2)

    def test_numbers_of_steps_are_those_of_earlier_ones(self):
        given = ("given", ("one", "x", 0))
        for number in (-1, 2, 3, True, False, None, "0", (0,), 10 ** 20):
            told = ("led", row("-> is x 0, is x 1, is x 2"), (0, number))
            for step in (("add", ((0, 1), (number, 1))), ("divide", number, 2), ("trim", number),
                         ("weaken", number, ("is", "x", 0)), told, ("back", number)):
                self.assertEqual(fault(given, given, step, given), 2, step)


class Given(unittest.TestCase):
    def test_rows_and_marks(self):
        self.assertEqual(last(("given", ("one", "x", 0))), (total("1 is x 0 + 1 is x 1 + 1 is x 2 >= 1"), ""))
        self.assertEqual(last(("given", ("chain", "x", 1))), (row("from x 2 -> from x 1"), ""))
        self.assertEqual(last(("given", ("part", "x", 0, 1)))[1], "")
        self.assertEqual(last(("given", ("sign", "w", 1))), (row("is x 1 -> if w"), ""))
        self.assertEqual(last(("given", ("tells", "w", 0))),
                         (total("1 from y 1 + 1 from y 2 + 1 not if w >= 1"), "S"))
        self.assertEqual(last(("given", ("tells", "k", 2))), (total("1 not is x 2 + 1 not is y 2 + 1 not kept k >= 1"),
                                                              "S"))

    def test_wrong_names(self):
        for name in ODD_VALUES + (("one", "x", 2), ("one", "z", 0), ("one", "x", True), ("chain", "x", 0),
                                  ("tells", "d", 3),
                                  ("tells", "q", 0), ("sign", "d", 0), ("sign", "w", -1), ("part", "x", 3, 0)):
            self.assertEqual(fault(("given", name)), 0, name)


class Told(unittest.TestCase):
    def test_a_row_that_holds_where_the_saying_does(self):
        told = total("1 from x 1 + 1 from x 2 + 1 from y 1 + 1 from y 2 >= 2")
        self.assertEqual(last(("told", "a", told)), (told, "S"))
        self.assertEqual(last(("told", "a", row("is x 0 -> is y 2")))[1], "S")
        self.assertEqual(fault(("told", "a", row("is x 0 -> is y 1"))), 0)
        self.assertEqual(fault(("told", "a", (told[0], 3))), 0)
        self.assertEqual(fault(("told", "a", (told[0], 1))), 1)
        self.assertEqual(fault(("told", "a", ((), 0))), 1)
        self.assertEqual(fault(("told", "a", ((), 1))), 0)

    def test_if_of_a_when(self):
        self.assertEqual(fault(("told", "w", row("if w -> from y 1"))), 1)
        self.assertEqual(fault(("told", "w", row("-> from y 1, is x 0, is x 2"))), 1)
        self.assertEqual(fault(("told", "w", row("is x 1 -> if w"))), 1)
        self.assertEqual(fault(("told", "w", row("if w -> from y 2"))), 0)
        self.assertEqual(fault(("told", "a", row("if w -> from y 1"))), 0)

    def test_kept_of_a_soft_saying(self):
        self.assertEqual(fault(("told", "k", row("kept k, is x 1, is y 1 ->"))), 1)
        self.assertEqual(fault(("told", "k", row("-> kept k, is x 0, is x 1, is y 2"))), 1)
        self.assertEqual(fault(("told", "k", row("-> kept k, is x 0, is x 1"))), 0)
        # a soft saying need not hold
        self.assertEqual(fault(("told", "k", row("is x 1, is y 1 ->"))), 0)
        self.assertEqual(fault(("told", "d", row("is x 1, is y 1 ->"))), 1)
        self.assertEqual(fault(("told", "d", row("kept k, is x 1, is y 1 ->"))), 0)
        self.assertEqual(fault(("told", "k", ((), 0))), 1)

    def test_signs_of_other_unknowns(self):
        model = (UNKNOWNS + (("z", (0, 1)),), SAYINGS, MODEL[2])
        self.assertEqual(fault(("told", "d", row("is x 1, is y 1 -> is z 0")), model=model), 0)
        self.assertEqual(fault(("told", "d", row("is x 1, is y 1 -> name 0"))), 0)
        named = ("name", 0, row("-> is x 1"))
        self.assertEqual(fault(named, ("told", "d", row("is x 1, is y 1 -> name 0"))), 1)
        table = (UNKNOWNS, (("t", ("table", ("x",), ((0,), (1,)))),), ())
        self.assertEqual(fault(("told", "t", row("-> is x 0, is x 1")), model=table), 1)
        self.assertEqual(fault(("told", "t", row("row t 0 -> is x 0")), model=table), 0)

    def test_small_sayings_alone(self):
        for sizes, right in (((4, 4, 4, 4), True), ((4, 4, 4, 5), False)):
            unknowns = tuple((f"x{k}", tuple(range(size))) for k, size in enumerate(sizes))
            names = tuple(x for x, domain in unknowns)
            model = (unknowns, (("d", ("unlike", names)), ("e", ("unlike", names[:3]))), (("f", ("unlike", names), 1),))
            self.assertEqual(fault(("told", "d", row("is x0 1, is x1 1 ->")), model=model), int(right))
            self.assertEqual(fault(("told", "e", row("is x0 1, is x1 1 ->")), model=model), 1)
            self.assertEqual(fault(("told", "f", row("kept f, is x0 1, is x1 1 ->")), model=model), int(right))

    def test_a_when_is_small_by_all_its_unknowns(self):
        unknowns = tuple((f"x{k}", tuple(range(8))) for k in range(3))
        model = (unknowns, (("w", ("when", ("is", "x0", 1), ("unlike", ("x1", "x2")))),
                            ("v", ("when", ("is", "x1", 1), ("unlike", ("x1", "x2"))))), ())
        self.assertEqual(fault(("told", "w", row("if w, is x1 1, is x2 1 ->")), model=model), 0)
        self.assertEqual(fault(("told", "v", row("if v, is x1 1, is x2 1 ->")), model=model), 1)

    def test_wrong_names_and_rows(self):
        for value in ODD_VALUES + ("x", "q"):
            if value != "a":
                self.assertEqual(fault(("told", value, ((), 0))), 0, value)
            self.assertEqual(fault(("told", "a", value)), 0, value)
        right = row("is x 0 -> is y 2")
        for odd in (True, False, None, -1, 9, "q", ()):
            for value in changed_at_each_place(right, odd):
                if not is_row([(kind, x, v) for kind in ("is", "from") for x in "xy" for v in range(3)], value):
                    self.assertEqual(fault(("told", "a", value)), 0, value)

    def test_by_chance_against_all_fillings(self):
        chance = random.Random(15)
        told = {True: 0, False: 0}
        for number in range(30 * len(WORDS)):
            word = WORDS[number % len(WORDS)]
            model = model_by(chance, (word,), (word,), (3, 4))
            for name in ("s0", "t0"):
                saying = (model[1] + model[2])[0 if name == "s0" else 1][1]
                signs = [(kind, x, v) for x, domain in model[0] for v in domain for kind in ("is", "from")
                         if (kind == "is" or v > domain[0]) and x in unknowns_of(model, name)]
                signs += [("if", name)] * (saying[0] == "when") + [("kept", name)] * (name == "t0")
                for _ in range(6):
                    picked = sorted(set(chance.choices(signs, k=chance.randint(1, 5))))
                    parts = tuple(((one, chance.random() < 0.6), chance.choice((1, 1, 2, 3))) for one in picked)
                    one = (parts, chance.choice((0, 1, 1, 1, 2, 3)))
                    holds = all(row_holds(model, one, filling) for filling in all_tuples(model[0])
                                if name == "t0" or keeps_saying(model, name, filling))
                    holds = holds and is_small(model, name)
                    self.assertEqual(fault(("told", name, one), model=model), int(holds), (model, name, one))
                    told[holds] += 1
        self.assertGreater(min(told.values()), 200)


class Side(unittest.TestCase):
    def test_rows(self):
        self.assertEqual(last(("side", (("is", "x", 1), True))), (total("1 is x 1 >= 0"), ""))
        self.assertEqual(last(("side", (("kept", "k"), False))), (total("1 not kept k >= 0"), ""))
        self.assertEqual(last(("name", 4, ((), 0)), ("side", (("name", 4), False))), (total("1 not name 4 >= 0"), ""))

    def test_wrong_ones(self):
        for side in ODD_VALUES + ((("is", "x", 1), 1), (("is", "x", 1), 0), (("is", "x", 1),), (("is", "x", 3), True),
                                  (("is", "x", True), True), (("from", "x", 0), True), (("name", 4), True),
                                  ("is", True),
                                  (("is", "x", 1), True, 1), ("is", "x", 1), (None, True)):
            self.assertEqual(fault(("side", side)), 0, side)


class Add(unittest.TestCase):
    def test_sums(self):
        one, chain = ("given", ("one", "x", 0)), ("given", ("tells", "a", 0))
        self.assertEqual(last(one, chain, ("add", ((0, 1),)))[0], total("1 is x 0 + 1 is x 1 + 1 is x 2 >= 1"))
        self.assertEqual(last(one, chain, ("add", ((0, 2), (1, 3), (0, 1)))), (
            total("3 is x 0 + 3 is x 1 + 3 is x 2 + 3 from x 1 + 3 from x 2 + 3 from y 1 + 3 from y 2 >= 9"), "S"))
        most = ("given", ("one", "x", 1))
        self.assertEqual(last(one, most, ("add", ((0, 1), (1, 1)))), (((), 0), ""))
        self.assertEqual(last(one, most, ("add", ((0, 3), (1, 1)))), (total("2 is x 0 + 2 is x 1 + 2 is x 2 >= 2"), ""))

    def test_wrong_ones(self):
        one = ("given", ("one", "x", 0))
        for pairs in ODD_VALUES + (((0, 0),), ((0, -1),), ((0, True),), ((1, 1),), ((0, 1), (1, 1)), ((False, 1),),
                                   ((0, 1, 1),),
                                   (0, 1), ((0,),), ((0, "1"),), ((-1, 1),), ((0, 10 ** 60),)):
            self.assertEqual(fault(one, ("add", pairs)), 1, pairs)

    def test_a_step_very_many_times(self):
        # a row of 432 parts that is told 3000 times is no list of more than a million parts
        xs = tuple(f"x{k}" for k in range(24))
        model = (tuple((x, tuple(range(12))) for x in xs), (), ())
        steps = [("given", ("one", x, 0)) for x in xs] + [("given", ("part", x, v, 1)) for x in xs for v in range(6)]
        steps.append(("add", tuple((k, k + 1) for k in range(len(steps)))))
        many = len(steps)
        steps.append(("add", ((many - 1, 2), (many - 2, 3)) * 3000))
        long, short = last(*steps[:many], model=model)[0], last(*steps[:many - 1], model=model)[0]
        pairs = [(side, 6000 * c) for side, c in long[0]] + [(side, 9000 * c) for side, c in short[0]]
        tracemalloc.start()
        told = last(*steps, model=model)
        peak = tracemalloc.get_traced_memory()[1]
        tracemalloc.stop()
        self.assertEqual(told, (norm(tuple(pairs), 6000 * long[1] + 9000 * short[1]), ""))
        self.assertLess(peak, 20 * 10 ** 6)

    def test_by_chance_against_norm(self):
        chance = random.Random(16)
        names = [("one", "x", 0), ("one", "x", 1), ("part", "x", 1, 0), ("part", "x", 1, 1), ("tells", "a", 0),
                 ("chain", "x", 1),
                 ("tells", "d", 1), ("part", "y", 2, 0)]
        steps = tuple(("given", name) for name in names)
        rows_given = [told for told, marks in rows_of(MODEL, ("none",), paper(*steps))]
        for _ in range(100):
            pairs = tuple((chance.randrange(len(names)), chance.randint(1, 4)) for _ in range(chance.randint(1, 5)))
            sides = tuple((side, c * m) for number, m in pairs for side, c in rows_given[number][0])
            right = norm(sides, sum(rows_given[number][1] * m for number, m in pairs))
            marks = "S" if any(number in (4, 6) for number, m in pairs) else ""
            self.assertEqual(last(*steps, ("add", pairs)), (right, marks))


class DivideTrimWeaken(unittest.TestCase):
    start = (("given", ("tells", "a", 0)), ("given", ("one", "x", 1)), ("add", ((0, 3), (1, 2))))
    # 2 not is x 0 + 2 not is x 1 + 2 not is x 2 + 3 from x 1 + .. >= 10

    def test_divide(self):
        self.assertEqual(last(*self.start)[0], total("2 not is x 0 + 2 not is x 1 + 2 not is x 2 + 3 from x 1 + "
                                                     "3 from x 2 + 3 from y 1 + 3 from y 2 >= 10"))
        self.assertEqual(last(*self.start, ("divide", 2, 2)), (total(
            "1 not is x 0 + 1 not is x 1 + 1 not is x 2 + 2 from x 1 + 2 from x 2 + 2 from y 1 + 2 from y 2 >= 5"),
            "S"))
        self.assertEqual(last(*self.start, ("divide", 2, 3)), (total(
            "1 not is x 0 + 1 not is x 1 + 1 not is x 2 + 1 from x 1 + 1 from x 2 + 1 from y 1 + 1 from y 2 >= 4"),
            "S"))
        self.assertEqual(last(*self.start, ("divide", 2, GREAT))[0][1], 1)
        self.assertEqual(last(*self.start, ("divide", 2, 1)), last(*self.start))
        self.assertEqual(last(("side", (("is", "x", 0), True)), ("divide", 0, 5)), (total("1 is x 0 >= 0"), ""))

    def test_divide_wrong(self):
        for d in (0, -1, True, False, None, "2", 10 ** 60, (2,)):
            self.assertEqual(fault(*self.start, ("divide", 2, d)), 3, d)

    def test_trim(self):
        self.assertEqual(last(*self.start, ("trim", 2)), last(*self.start))
        steps = (("given", ("one", "x", 0)), ("given", ("one", "y", 0)), ("given", ("one", "x", 1)),
                 ("add", ((0, 5), (1, 7), (2, 4))), ("trim", 3))
        self.assertEqual(last(*steps[:4])[0],
                         total("1 is x 0 + 1 is x 1 + 1 is x 2 + 7 is y 0 + 7 is y 1 + 7 is y 2 >= 8"))
        steps = (("given", ("tells", "a", 0)), ("side", (("is", "x", 0), True)), ("add", ((0, 1), (1, 9))), ("trim", 2))
        self.assertEqual(last(*steps), (total("2 is x 0 + 1 from x 1 + 1 from x 2 + 1 from y 1 + 1 from y 2 >= 2"),
                                        "S"))
        self.assertEqual(last(("side", (("is", "x", 0), True)), ("trim", 0)), (((), 0), ""))

    def test_weaken(self):
        self.assertEqual(last(*self.start, ("weaken", 2, ("is", "x", 1))), (total(
            "2 not is x 0 + 2 not is x 2 + 3 from x 1 + 3 from x 2 + 3 from y 1 + 3 from y 2 >= 8"), "S"))
        steps = (("given", ("one", "x", 0)), ("add", ((0, 2),)), ("weaken", 1, ("is", "x", 0)),
                 ("weaken", 2, ("is", "x", 1)))
        self.assertEqual(last(*steps[:3]), (total("2 is x 1 + 2 is x 2 >= 0"), ""))
        self.assertEqual(last(*steps), (total("2 is x 2 >= 0"), ""))
        self.assertEqual(last(("name", 3, row("-> is x 1")), ("weaken", 0, ("name", 3))), (total("1 is x 1 >= 0"), ""))

    def test_weaken_wrong(self):
        for value in ODD_VALUES + (("is", "y", 0), ("from", "x", 0), ("is", "x", True), ("is", "x", 9), ("name", 0),
                                   ("kept", "k"),
                                   (("is", "x", 1), False)):
            if repr(value) not in (repr(("is", "x", 1)), repr(("from", "x", 1))):
                self.assertEqual(fault(*self.start, ("weaken", 2, value)), 3, value)


class Led(unittest.TestCase):
    def test_rows_and_marks(self):
        one, low, high = ("given", ("one", "x", 0)), ("given", ("part", "x", 1, 0)), ("given", ("part", "x", 2, 0))
        wanted = row("-> is x 0, is x 1, is x 2")
        self.assertEqual(last(one, ("led", wanted, (0,))), (wanted, ""))
        # without 1 and 2, x is not from 1 on
        wanted = row("from x 1 -> is x 1, is x 2")
        self.assertEqual(last(low, high, ("led", wanted, (1, 0))), (wanted, ""))
        self.assertEqual(last(high, low, ("given", ("tells", "d", 0)), ("led", wanted, (0, 2, 1))), (wanted, "S"))
        self.assertEqual(last(high, low, ("given", ("tells", "d", 0)), ("led", wanted, (0, 1))), (wanted, ""))

    def test_too_early_too_late_and_not_at_all(self):
        low, high = ("given", ("part", "x", 1, 0)), ("given", ("part", "x", 2, 0))
        wanted = row("from x 1 -> is x 1, is x 2")
        self.assertEqual(fault(low, high, ("led", wanted, (1, 0))), 3)
        self.assertEqual(fault(low, high, ("led", wanted, (0, 1))), 3)
        self.assertEqual(fault(low, high, ("led", wanted, (0, 0, 1))), 3)
        self.assertEqual(fault(low, high, ("led", wanted, (1, 0, 1))), 2)
        self.assertEqual(fault(low, high, ("led", wanted, (1, 0, 0))), 2)
        self.assertEqual(fault(low, high, ("led", wanted, (1,))), 2)
        self.assertEqual(fault(low, high, ("led", wanted, (0, 0))), 2)
        self.assertEqual(fault(low, high, ("led", wanted, ())), 2)
        self.assertEqual(fault(low, high, ("led", wanted, (0, 1, 1))), 2)

    def test_a_step_several_times(self):
        # 3 a + 2 b + 2 c is to be at least 5: first a is settled, and c when b is
        steps = (("name", 0, total("3 is x 0 + 2 is x 1 + 2 is x 2 >= 5")), ("name", 1, row("is x 0, is x 1 ->")),
                 ("name", 2, row("is x 0, is x 2 ->")))
        wanted = row("name 0, name 1, name 2 ->")
        self.assertEqual(fault(*steps, ("led", wanted, (0, 1, 0, 2))), 4)
        self.assertEqual(fault(*steps, ("led", wanted, (0, 1, 2, 0))), 4)
        self.assertEqual(fault(*steps, ("led", wanted, (0, 1, 2))), 3)
        self.assertEqual(fault(*steps, ("led", wanted, (1, 0, 2))), 3)
        self.assertEqual(fault(*steps, ("led", wanted, (1, 2, 0))), 3)

    def test_without_numbers(self):
        self.assertEqual(last(("led", ((), 0), ())), (((), 0), ""))
        self.assertEqual(last(("led", total("3 is x 0 >= 0"), ())), (total("3 is x 0 >= 0"), ""))
        self.assertEqual(fault(("led", total("3 is x 0 >= 1"), ())), 0)
        self.assertEqual(fault(("given", ("one", "x", 0)), ("led", ((), 0), (0,))), 1)

    def test_sides_are_settled_where_they_are_needed(self):
        # the sum is to be at least 4: x from 1 and y from 1 on, and so on
        least = (UNKNOWNS, (("a", ("least", (("x", 2), ("y", 1)), 5)),), ())
        tells = ("given", ("tells", "a", 0))
        self.assertEqual(fault(tells, ("led", row("-> from x 1"), (0,)), model=least), 2)
        self.assertEqual(fault(tells, ("led", row("-> from x 2"), (0,)), model=least), 2)
        self.assertEqual(fault(tells, ("led", row("-> from y 1"), (0,)), model=least), 1)
        self.assertEqual(fault(tells, ("led", row("-> from y 1, from y 2"), (0,)), model=least), 2)
        self.assertEqual(fault(tells, ("led", row("-> from y 1, is x 0"), (0,)), model=least), 1)

    def test_the_denial_may_have_more_figures(self):
        great = ((((("is", "x", 0), True), GREAT), ((("is", "x", 1), True), GREAT)), 0)
        self.assertEqual(denial(great)[1], 2 * GREAT + 1)
        self.assertEqual(last(("led", great, ())), (great, ""))

    def test_wrong_rows_and_numbers(self):
        one = ("given", ("one", "x", 0))
        wanted = row("-> is x 0, is x 1, is x 2")
        for value in ODD_VALUES:
            self.assertEqual(fault(one, ("led", value, (0,))), 1, value)
            if value not in ((0, 0), (False,), (0,)):
                self.assertEqual(fault(one, ("led", wanted, value)), 1, value)
        for numbers in ((1,), (0, 1), (True,), (False,), (-1,), (0, False), ("0",), 0, ((0,),), None):
            self.assertEqual(fault(one, ("led", wanted, numbers)), 1, numbers)
        for odd in (True, False, None, 0, -1, 9, "q", ()):
            for value in changed_at_each_place(wanted, odd):
                if not is_row([("is", "x", v) for v in range(3)], value):
                    self.assertEqual(fault(one, ("led", value, (0,))), 1, value)

    def test_by_chance_against_all_settings(self):
        # what is led from rows holds wherever they hold
        chance = random.Random(17)
        signs = [("is", "x", v) for v in range(3)] + [("is", "y", v) for v in range(3)]
        met = 0
        for _ in range(2000):
            steps = []
            for n in range(3):
                picked = chance.sample(signs, 3)
                parts = tuple(sorted(((one, chance.random() < 0.5), chance.randint(1, 3)) for one in picked))
                steps.append(("name", n, (parts, chance.randint(1, 4))))
            wanted = (tuple(sorted(((one, chance.random() < 0.5), 1) for one in chance.sample(signs, 2))), 1)
            wanted = (tuple(sorted(wanted[0] + tuple(((("name", n), False), 1) for n in range(3)))), 1)
            numbers = tuple(chance.choices(range(3), k=chance.randint(1, 4)))
            if fault(*steps, ("led", wanted, numbers)) == 4:
                met += 1
                for true in itertools.product((True, False), repeat=6):
                    at = dict(zip(signs, true))

                    def holds(one):
                        return sum(c for (sign, worth), c in one[0] if at[sign] == worth) >= one[1]
                    if all(holds(step[2]) for step in steps):
                        rest = (tuple(part for part in wanted[0] if part[0][0][0] != "name"), 1)
                        self.assertTrue(holds(rest))
        self.assertGreater(met, 20)


class Names(unittest.TestCase):
    def test_name(self):
        named = total("2 is x 0 + 1 not is y 1 >= 2")
        self.assertEqual(last(("name", 0, named)), (total("2 is x 0 + 1 not is y 1 + 2 not name 0 >= 2"), ""))
        self.assertEqual(last(("name", 10 ** 30 - 1, ((), 0))), (((), 0), ""))
        self.assertEqual(last(("name", 5, total("1 is x 0 >= 0"))), (total("1 is x 0 >= 0"), ""))
        self.assertEqual(last(("name", 5, ((), 3))), (total("3 not name 5 >= 3"), ""))
        # before and behind signs of other words
        self.assertEqual(last(("name", 5, row("if w -> row t 0")), model=(UNKNOWNS, (
            ("t", ("table", ("x",), ((0,),))), ("w", SAYINGS[2][1])), ())), (row("if w, name 5 -> row t 0"), ""))

    def test_back(self):
        named = total("2 is x 0 + 1 not is y 1 >= 2")
        # the denial: 2 not is x 0 + 1 is y 1 >= 2
        self.assertEqual(last(("name", 7, named), ("back", 0)), (total("2 not is x 0 + 1 is y 1 + 2 name 7 >= 2"), ""))
        self.assertEqual(last(("name", 7, ((), 2)), ("back", 0)), (((), 0), ""))
        self.assertEqual(last(("name", 7, ((), 0)), ("back", 0)), (total("1 name 7 >= 1"), ""))
        self.assertEqual(last(("name", 7, total("3 is x 0 >= 0")), ("back", 0)),
                         (total("3 not is x 0 + 4 name 7 >= 4"), ""))

    def test_back_of_other_steps(self):
        one = ("given", ("one", "x", 0))
        self.assertEqual(fault(one, ("back", 0)), 1)
        self.assertEqual(fault(("name", 7, ((), 2)), one, ("back", 1)), 2)
        self.assertEqual(fault(("name", 7, ((), 2)), one, ("back", 0)), 3)
        self.assertEqual(fault(("name", 1, ((), 2)), ("back", 0), ("back", 1)), 2)
        self.assertEqual(fault(one, ("name", 0, ((), 2)), ("back", 0)), 2)
        for value in ODD_VALUES:
            if repr(value) != "0":
                self.assertEqual(fault(("name", 7, ((), 2)), ("back", value)), 1, value)

    def test_numbers_of_names(self):
        for n in (-1, 10 ** 30, True, False, None, "0", (), ("name", 0)):
            self.assertEqual(fault(("name", n, ((), 0))), 0, n)

    def test_given_once(self):
        self.assertEqual(fault(("name", 1, ((), 0)), ("name", 2, ((), 0)), ("name", 1, ((), 0))), 2)
        self.assertEqual(fault(("name", 1, row("-> is x 0")), ("name", 1, row("-> is x 0"))), 1)

    def test_names_in_rows_are_given_before(self):
        self.assertEqual(fault(("name", 1, row("-> name 1"))), 0)
        self.assertEqual(fault(("name", 1, row("-> name 2")), ("name", 2, ((), 0))), 0)
        self.assertEqual(fault(("name", 2, ((), 0)), ("name", 1, row("-> name 2"))), 2)
        self.assertEqual(last(("name", 2, row("-> is x 0")), ("name", 1, row("name 2 -> is y 0")))[0],
                         row("name 1, name 2 -> is y 0"))
        self.assertEqual(fault(("led", total("1 name 0 >= 0"), ())), 0)
        self.assertEqual(fault(("name", 0, ((), 0)), ("led", total("1 name 0 >= 0"), ())), 2)

    def test_wrong_rows(self):
        for value in ODD_VALUES + (row("-> is x 9"), total("1 is x 0 >= 1")[:1], ((((("is", "x", 0), 1), 1),), 1)):
            self.assertEqual(fault(("name", 0, value)), 0, value)


class Figures(unittest.TestCase):
    side = ("side", (("is", "x", 0), True))
    low = ("given", ("one", "x", 0))

    def test_numbers_of_60_figures(self):
        self.assertEqual(last(self.side, ("add", ((0, GREAT),)))[0], total(f"{GREAT} is x 0 >= 0"))
        self.assertEqual(fault(self.side, ("add", ((0, GREAT + 1),))), 1)
        self.assertEqual(fault(self.side, ("add", ((0, GREAT), (0, 1)))), 1)
        self.assertEqual(fault(self.low, ("add", ((0, GREAT - 1), (0, 1)))), 2)
        self.assertEqual(fault(self.low, ("add", ((0, GREAT), (0, 1)))), 1)
        self.assertEqual(fault(self.side, ("add", ((0, GREAT),)), ("add", ((1, 2),))), 2)

    def test_on_the_way_there_may_be_more(self):
        # 2 * GREAT of is(x, 0) and as much of its other side come to nothing but the least
        other = ("side", (("is", "x", 0), False))
        steps = (self.side, other, ("add", ((0, GREAT), (0, GREAT), (1, GREAT), (1, GREAT))))
        self.assertEqual(last(*steps)[0], ((), 0))

    def test_in_rows_that_are_told(self):
        for step in (("told", "a"), ("name", 0), ("led",)):
            for numbers in ((GREAT, 0), (1, 0), (GREAT + 1, 0)):
                told = (((((("is", "x", 0), True), numbers[0])),), numbers[1])
                steps = [step + (told,) + (((),) if step == ("led",) else ())]
                self.assertEqual(fault(*steps), int(numbers[0] <= GREAT), steps)
        self.assertEqual(fault(("name", 0, ((), GREAT))), 1)
        self.assertEqual(fault(("name", 0, ((), GREAT + 1))), 0)

    def test_in_rows_that_come(self):
        great = total(f"{GREAT} is x 0 + {GREAT} is x 1 >= {GREAT}")
        self.assertEqual(fault(("name", 0, great), ("back", 0)), 1 + (denial(great)[1] <= GREAT))
        low = total(f"{GREAT} is x 0 + {GREAT} is x 1 >= 5")
        self.assertEqual(denial(low)[1], 2 * GREAT - 4)
        self.assertEqual(fault(("name", 0, low), ("back", 0)), 1)
        high = total(f"{GREAT} is x 0 >= 1")
        self.assertEqual(last(("name", 0, high), ("back", 0))[0],
                         total(f"{GREAT} not is x 0 + {GREAT} name 0 >= {GREAT}"))
        free = total(f"{GREAT} is x 0 >= 0")
        self.assertEqual(fault(("name", 0, free), ("back", 0)), 1)


WISHES = ((3, (("x", 2), ("y", -1)), 1), (0, (("y", 1),), 0))
HEAD = ((), (), WISHES, ((0, 2),))


class Wishes(unittest.TestCase):
    # first wish: 3 + 2 x - y + 2 * not kept(k), from -1 + .. at (0, 2): 1; second: y, 2 there
    first = total("2 not from x 1 + 2 not from x 2 + 1 from y 1 + 1 from y 2 + 2 kept k >= 9")
    second = total("1 not from y 1 + 1 not from y 2 >= 1")

    def test_better(self):
        # the range of the second wish is (0, 2), so that the joined wish is 3 times the first and the second
        joined = total("6 not from x 1 + 6 not from x 2 + 2 from y 1 + 2 from y 2 + 6 kept k >= 23")
        # 3 * (3 + 2 x - y + 2 - 2 kept) + y is at most 3 * 1 + 2 - 1
        self.assertEqual(last(("better",), head=HEAD), (joined, "B"))
        one = ((), (), WISHES[:1], ((0, 2),))
        self.assertEqual(last(("better",), head=one), (self.first, "B"))

    def test_better_needs_a_filling_and_a_wish(self):
        for wishes, fillings in (((), ()), (WISHES, ()), ((), ((0, 2),)), (WISHES, ((0, 2), (0, 2)))):
            self.assertEqual(fault(("better",), head=((), (), wishes, fillings)), 0)

    def names(self):
        return ("name", 4, self.first), ("name", 2, self.second)

    def test_beside(self):
        self.assertEqual(last(*self.names(), ("beside", 0, (("name", 4), ("name", 2))), head=HEAD),
                         (row("-> name 4, name 2"), "N"))
        two = ((), (), WISHES, ((2, 0), (0, 2)))
        self.assertEqual(fault(*self.names(), ("beside", 1, (("name", 4), ("name", 2))), head=two), 3)
        self.assertEqual(fault(*self.names(), ("beside", 0, (("name", 4), ("name", 2))), head=two), 2)

    def test_a_name_that_is_told_twice_stands_once(self):
        wish = WISHES[1]
        head = ((), (), (wish, wish), ((0, 2),))
        self.assertEqual(last(("name", 2, self.second), ("beside", 0, (("name", 2), ("name", 2))), head=head),
                         (row("-> name 2"), "N"))

    def test_beside_wrong(self):
        names = self.names()
        right = (("name", 4), ("name", 2))
        for i in (-1, 1, True, False, None, "0", (0,)):
            self.assertEqual(fault(*names, ("beside", i, right), head=HEAD), 2, i)
        for told in ODD_VALUES + (right[::-1], right[:1], right + right[:1], (("name", 4), ("name", 3)), (4, 2),
                                  (right,),
                                  (("name", 4), ("name", True)), (("name", 4), ("is", "x", 0)), (("name", 4), None)):
            self.assertEqual(fault(*names, ("beside", 0, told), head=HEAD), 2, told)
        self.assertEqual(fault(names[0], ("beside", 0, right), names[1], head=HEAD), 1)
        self.assertEqual(fault(*names, ("beside", 0, right), head=((), (), WISHES, ())), 2)
        self.assertEqual(fault(*names, ("beside", 0, ()), head=((), (), (), ((0, 2),))), 2)

    def test_prices_of_soft_sayings(self):
        wishes = ((0, (), 1),)
        self.assertEqual(last(("better",), head=((), (), wishes, ((0, 2),))), (total("2 kept k >= 3"), "B"))
        self.assertEqual(last(("better",), head=((), (), wishes, ((2, 2),))), (total("2 kept k >= 1"), "B"))


class Turned(unittest.TestCase):
    model = (UNKNOWNS + (("z", (4, 5)),), SAYINGS[:2], ())
    shift = (("x", "x", ((0, 1), (1, 2), (2, 0))), ("y", "y", ((0, 1), (1, 2), (2, 0))))

    def test_an_exchange_of_unknowns(self):
        # places: 3 * (y - x) + (x - y), where y of the other filling is told by is-signs
        told = last(("turned", (0,)), head=(("x", "y"), (CHANGE,), (), ()), model=self.model)
        pairs = ((("is", "y", 1), 3), (("is", "y", 2), 6), (("from", "x", 1), -3), (("from", "x", 2), -3),
                 (("is", "x", 1), 1), (("is", "x", 2), 2), (("from", "y", 1), -1), (("from", "y", 2), -1))
        self.assertEqual(told, (norm(tuple(((one, True), c) for one, c in pairs), 0), "T"))

    def test_unknowns_that_the_word_leaves_alone(self):
        told = last(("turned", (0,)), head=(("y", "z", "x"), (CHANGE,), (), ()), model=self.model)
        pairs = ((("is", "x", 1), 6), (("is", "x", 2), 12), (("from", "y", 1), -6), (("from", "y", 2), -6),
                 (("is", "z", 5), 3), (("from", "z", 5), -3),
                 (("is", "y", 1), 1), (("is", "y", 2), 2), (("from", "x", 1), -1), (("from", "x", 2), -1))
        self.assertEqual(told, (norm(tuple(((one, True), c) for one, c in pairs), 0), "T"))

    def test_rows_hold_just_where_the_filling_is_at_most_the_turned_one(self):
        model = (UNKNOWNS + (("z", (4, 5)),), (("d", ("unlike", ("x", "y"))),), ())
        exchanges = (CHANGE, self.shift, (("z", "z", ((4, 5), (5, 4))),), ())
        for order in (("x", "y", "z"), ("z", "y", "x")):
            places = {"x": 0, "y": 1, "z": 2}
            for word in ((0,), (1,), (2,), (3,), (0, 1), (1, 0), (1, 1, 2), (1, 1, 1), (2, 0, 1, 0)):
                told, marks = last(("turned", word), head=(order, exchanges, (), ()), model=model)
                self.assertEqual(marks, "T")
                for filling in all_tuples(model[0]):
                    other = filling
                    for k in word:
                        other = turned(model, exchanges[k], other)
                    right = [filling[places[x]] for x in order] <= [other[places[x]] for x in order]
                    self.assertIs(row_holds(model, told, filling), right, (word, filling))

    def test_without_an_order(self):
        self.assertEqual(last(("turned", (0, 0)), head=((), ((),), (), ())), (((), 0), "T"))

    def test_wrong_words(self):
        head = (("x", "y"), (CHANGE,), (), ())
        self.assertEqual(fault(("turned", (0, 0, 0)), head=head, model=self.model), 1)
        for word in ODD_VALUES + ((1,), (0, 1), (-1,), (True,), (False,), ("0",), ((0,),), 0):
            if type(word) is not tuple or word == () or any(repr(k) != "0" for k in word):
                self.assertEqual(fault(("turned", word), head=head, model=self.model), 0, word)
        self.assertEqual(fault(("turned", (0,))), 0)


class Marks(unittest.TestCase):
    def test_all_together_in_their_order(self):
        model = (UNKNOWNS, SAYINGS[:2], ())
        wish = (0, (("x", 1), ("y", 1)), 0)
        beside = total("1 not from x 1 + 1 not from x 2 + 1 not from y 1 + 1 not from y 2 >= 3")
        head = (("x", "y"), (CHANGE,), (wish,), ((0, 2),))
        steps = (("turned", (0,)), ("name", 0, beside), ("beside", 0, (("name", 0),)), ("given", ("tells", "d", 0)),
                 ("better",), ("given", ("one", "x", 0)), ("add", ((5, 1), (0, 1))), ("add", ((2, 1), (3, 1))),
                 ("add", ((6, 1), (7, 1), (4, 1))), ("divide", 8, 2), ("trim", 9), ("weaken", 10, ("name", 0)),
                 ("led", ((), 0), ()))
        told = [marks for one, marks in rows_of(model, ("none",), (head, steps))]
        self.assertEqual(told, ["T", "", "N", "S", "B", "", "T", "NS", "BNST", "BNST", "BNST", "BNST", ""])

    def test_papers_that_are_spoilt_at_each_place_are_no_errors(self):
        wish = (0, (("x", 1), ("y", 1)), 0)
        beside = total("1 not from x 1 + 1 not from x 2 + 1 not from y 1 + 1 not from y 2 >= 3")
        head = (("x", "y"), (CHANGE,), (wish,), ((0, 2),))
        steps = (("turned", (0,)), ("name", 0, beside), ("beside", 0, (("name", 0),)), ("given", ("tells", "d", 0)),
                 ("better",), ("side", (("name", 0), False)), ("told", "d", row("is x 1, is y 1 ->")),
                 ("add", ((2, 1), (3, 2))), ("divide", 7, 2), ("trim", 8), ("weaken", 9, ("name", 0)), ("back", 1),
                 ("led", row("is x 1, is y 1 ->"), (6,)))
        model = (UNKNOWNS, SAYINGS[:2], ())
        self.assertEqual(fault(*steps, head=head, model=model), len(steps))
        for odd in (None, True, False, -1, 0, 1, 7, 10 ** 29, "x", "d", "name", (), ("name", 0), (("is", "x", 1), True)):
            for value in changed_at_each_place((head, steps), odd):
                told = first_fault(model, ("row", row("is x 1, is y 1 ->")), value)
                self.assertTrue(told is None or type(told) is int and -1 <= told <= len(steps), value)
                self.assertIs(judge(model, ("row", row("is x 1, is y 1 ->")), value), told is None)

    def test_marks_of_what_is_led_come_from_all_its_numbers(self):
        # the first number settles nothing, but is used
        steps = (("given", ("one", "x", 0)), ("given", ("tells", "d", 0)),
                 ("led", row("-> is x 0, is x 1, is x 2"), (1, 0)))
        self.assertEqual(last(*steps)[1], "S")
        self.assertTrue(judge(MODEL, ("row", steps[2][1]), paper(*steps)))
        self.assertFalse(judge(MODEL, ("always", steps[2][1]), paper(*steps)))
        self.assertEqual(rows("-> is x 0, is x 1, is x 2"), (steps[2][1],))
        self.assertEqual(sign("is x 0"), ("is", "x", 0))
