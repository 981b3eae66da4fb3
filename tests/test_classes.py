"""[36], [37]: which wishes exchanges keep, classes of fillings, and found exchanges."""

import itertools
import random
import unittest

from aswritten.errors import TooFar
from aswritten.models import keeps
from aswritten.turns import check_exchange, class_of, found, keeps_model, keeps_wish, turned
from aswritten.wishes import worths
from tests.chance import WORDS, model_by
from tests.samples import ODD_VALUES, all_tuples, model_of_all_kinds
from tests.test_exchanges import NAMES, SHIFT, change, swap


class KeepsWish(unittest.TestCase):
    def check(self, exchange, kept, wish, model=(NAMES, (), ())):
        self.assertTrue(check_exchange(model, exchange))
        self.assertIs(keeps_wish(model, wish, exchange), kept, (wish, exchange))
        if kept:
            for filling in all_tuples(model[0])[::7]:
                self.assertEqual(worths(model, (wish,), filling),
                                 worths(model, (wish,), turned(model, exchange, filling)))

    def test_weights(self):
        self.check(change("a", "b"), True, (3, (("a", 2), ("b", 2), ("c", 1)), 0))
        self.check(change("a", "b"), False, (3, (("a", 2), ("b", 3), ("c", 1)), 0))
        self.check(change("a", "b"), False, (3, (("a", 2),), 0))
        self.check(change("a", "b"), True, (3, (("c", 2),), 0))
        self.check((), True, (3, (("c", 2),), 0))

    def test_values(self):
        self.check(swap("a"), True, (0, (("b", 5),), 0))
        self.check(swap("a"), False, (0, (("a", 1),), 0))
        self.check(swap("a", "b"), False, (0, (("a", 1), ("b", -1)), 0))
        # a value of a is led to one that is 7 more, and back to one that is 7 less
        self.check(SHIFT, True, (0, (("a", 2), ("f", 2)), 0))
        self.check(SHIFT, False, (0, (("a", 2), ("f", 3)), 0))
        self.check(SHIFT, False, (0, (("f", 2),), 0))

    def test_numbers_that_sum_to_0(self):
        unknowns = (("a", (0, 1)), ("b", (5, 6)), ("c", (9, 10)))
        model = (unknowns, (), ())
        ring = (("a", "b", ((0, 5), (1, 6))), ("b", "c", ((5, 9), (6, 10))), ("c", "a", ((9, 0), (10, 1))))
        self.check(ring, True, (0, (("a", 1), ("b", 1), ("c", 1)), 0), model)
        turns = (("a", "b", ((0, 6), (1, 5))), ("b", "a", ((5, 1), (6, 0))))
        # -1 * 6 - 1 * 0 and -1 * 5 - 1 * 1 are -6; 1 * 1 + 1 * 5 and 1 * 0 + 1 * 6 are 6
        self.check(turns, True, (0, (("a", 1), ("b", -1)), 0), model)
        self.check(turns, False, (0, (("a", 1), ("b", 1)), 0), model)
        only = (("a", "b", ((0, 6), (1, 5))), ("b", "a", ((5, 0), (6, 1))))
        self.check(only, False, (0, (("a", 1), ("b", -1)), 0), model)

    def test_single_values(self):
        model = ((("a", (0,)), ("b", (5,))), (), ())
        both = (("a", "b", ((0, 5),)), ("b", "a", ((5, 0),)))
        self.check(both, True, (0, (("a", 2), ("b", 1)), 0), model)
        self.check(both, True, (0, (("b", 1),), 0), model)

    def test_against_all_fillings(self):
        # terms alone are kept just where no filling changes its worth, as each number hangs on one value alone
        chance = random.Random(36)
        kept = 0
        for _ in range(300):
            model = model_by(chance, (), (), (2, 4))
            wish = (1, tuple((x, chance.choice((1, 1, 2, -1))) for x, domain in model[0] if chance.random() < 0.6), 0)
            for exchange in found(model):
                same = all(worths(model, (wish,), filling) == worths(model, (wish,), turned(model, exchange, filling))
                           for filling in all_tuples(model[0]))
                self.assertIs(keeps_wish(model, wish, exchange), same)
                kept += same
        self.assertGreater(kept, 50)

    def test_prices(self):
        unlike, other = ("unlike", ("a", "c")), ("unlike", ("c", "b"))
        for price, kept in ((2, True), (3, False)):
            model = (NAMES, (), (("s", unlike, 2), ("t", other, price)))
            self.check(change("a", "b"), kept, (0, (), 1), model)
            self.check(change("a", "b"), True, (0, (), 0), model)
        model = (NAMES, (("f", unlike),), (("s", unlike, 2),))
        self.check(change("a", "b"), False, (0, (), 1), model)
        self.check(change("a", "b"), True, (0, (), 0), model)
        model = (NAMES, (), (("s", ("least", (("a", 1),), 1), 2),))
        self.check(swap("a"), False, (0, (), 1), model)
        self.check(swap("b"), True, (0, (), 1), model)
        model = (NAMES, (), (("s", unlike, 2), ("t", unlike, 2), ("r", other, 2)))
        self.check(change("a", "b"), False, (0, (), 1), model)
        model = (NAMES, (), (("s", unlike, 2), ("t", unlike, 3), ("r", other, 3), ("q", other, 2)))
        self.check(change("a", "b"), True, (0, (), 1), model)

    def test_values_that_are_no_exchanges(self):
        model = model_of_all_kinds()
        for value in ODD_VALUES + (change("a", "b")[:1], change("a", "b")[::-1]):
            self.assertIs(keeps_wish(model, (0, (), 0), value), value == ())

    def test_the_model_need_not_be_kept(self):
        model = (NAMES, (("s", ("least", (("a", 1),), 1)),), ())
        self.assertIs(keeps_model(model, change("a", "b")), False)
        self.assertIs(keeps_wish(model=model, wish=(0, (), 1), value=change("a", "b")), True)


def fillings_that_come(model, exchanges, filling):
    met = {filling}
    while True:
        more = met | {turned(model, exchange, one) for exchange in exchanges for one in met}
        if more == met:
            return tuple(sorted(met))
        met = more


class ClassOf(unittest.TestCase):
    def test_the_example_of_the_document(self):
        model = ((("x", (0, 1)), ("y", (0, 1))), (("s", ("least", (("x", 1), ("y", 1)), 1)),), ())
        exchanges = found(model)
        self.assertEqual(exchanges, ((("x", "y", ((0, 0), (1, 1))), ("y", "x", ((0, 0), (1, 1)))),))
        self.assertEqual(class_of(model, exchanges, (0, 1)), ((0, 1), (1, 0)))
        self.assertEqual(class_of(model, exchanges, (1, 0)), ((0, 1), (1, 0)))
        self.assertEqual(class_of(model, exchanges, (1, 1)), ((1, 1),))
        both = tuple((x, x, ((0, 1), (1, 0))) for x in ("x", "y"))
        self.assertIs(keeps_model(model, both), False)

    def test_without_exchanges(self):
        model = (NAMES, (), ())
        filling = (0, 1, 2, 0, 1, 9)
        self.assertEqual(class_of(model, (), filling), (filling,))
        self.assertEqual(class_of(model, ((),), filling), (filling,))

    def test_all_that_come_one_after_the_other(self):
        chance = random.Random(37)
        for _ in range(60):
            model = model_by(chance, [chance.choice(WORDS)], (), (2, 4))
            kept = [filling for filling in all_tuples(model[0]) if keeps(model, filling)]
            exchanges = found(model)
            for filling in kept[:10]:
                told = class_of(model, exchanges, filling)
                self.assertEqual(told, fillings_that_come(model, exchanges, filling))
                self.assertTrue(all(keeps(model, other) for other in told))

    def test_2000_fillings_and_the_next_number(self):
        # 5 * 5 * 5 * 2 * 2 * 2 * 2 is 2000
        model, exchanges = turning_model((5, 5, 5, 2, 2, 2, 2), 0)
        told = class_of(model, exchanges, (0,) * 7)
        self.assertEqual(told, tuple(all_tuples(model[0])))
        self.assertEqual(len(told), 2000)
        # 2001 has the factor 29, which no class has; 13 * 11 * 7 * 2 is 2002
        model, exchanges = turning_model((11, 7), 13)
        self.assertEqual(len(class_of(model, exchanges, (0, 0, 1) + (0,) * 12)), 1001)
        model, exchanges = turning_model((11, 7, 2), 13)
        with self.assertRaises(TooFar):
            class_of(model, exchanges, (0, 0, 0, 1) + (0,) * 12)

    def test_far_more_fillings_take_no_longer(self):
        model, exchanges = turning_model((12,) * 24, 0)
        with self.assertRaises(TooFar):
            class_of(model, exchanges[:12], (0,) * 24)


def turning_model(sizes, many):
    """A model of unknowns of these sizes, and of many of 0 and 1; exchanges that turn each, and those many."""
    unknowns = tuple((f"x{k:02}", tuple(range(size))) for k, size in enumerate(sizes))
    exchanges = tuple(((x, x, tuple((v, (v + 1) % len(domain)) for v in domain)),) for x, domain in unknowns)
    ring = tuple((f"y{k:02}", (0, 1)) for k in range(many))
    if many:
        exchanges += (tuple((f"y{k:02}", f"y{(k + 1) % many:02}", ((0, 0), (1, 1))) for k in range(many)),)
    return (unknowns + ring, (), ()), exchanges


class Found(unittest.TestCase):
    def all_of_both_sorts(self, model):
        domains = dict(model[0])
        names = sorted(domains)
        exchanges = [change(x, y, domains[x]) for x, y in itertools.combinations(names, 2) if domains[x] == domains[y]]
        values = sorted({v for domain in domains.values() for v in domain})
        for a, b in itertools.combinations(values, 2):
            having = [x for x in names if a in domains[x] and b in domains[x]]
            if having:
                exchanges.append(tuple(swap(x, values=(a, b), domain=domains[x])[0] for x in having))
        return exchanges

    def test_against_all_of_both_sorts(self):
        chance = random.Random(38)
        numbers = set()
        for number in range(300):
            model = model_by(chance, [chance.choice(WORDS) for _ in range(chance.randint(1, 2))], (), (2, 5))
            told = found(model)
            right = [exchange for exchange in self.all_of_both_sorts(model) if keeps_model(model, exchange)]
            self.assertEqual(told, tuple(sorted(right)), model)
            numbers.add(min(len(told), 3))
        self.assertEqual(numbers, {0, 1, 2, 3})

    def test_none_one_and_several(self):
        unknowns = (("x", (0, 1)), ("y", (0, 1)), ("z", (0, 5)))
        least = ("least", (("x", 1), ("y", 2), ("z", 3)), 1)
        self.assertEqual(found((unknowns, (("s", least),), ())), ())
        self.assertEqual(found((unknowns, (("s", ("least", (("x", 1), ("y", 1), ("z", 3)), 1)),), ())),
                         (change("x", "y", (0, 1)),))
        told = found(model=(unknowns, (("s", ("unlike", ("x", "y"))),), ()))
        self.assertEqual(told, tuple(sorted((change("x", "y", (0, 1)), swap("x", "y", domain=(0, 1)),
                                             swap("z", values=(0, 5), domain=(0, 5))))))

    def test_soft_sayings_are_not_asked(self):
        unknowns = (("x", (0, 1)), ("y", (0, 1)))
        model = (unknowns, (), (("s", ("least", (("x", 1),), 1), 3),))
        self.assertEqual(len(found(model)), 2)

    def test_values_of_some_domains(self):
        unknowns = (("x", (0, 1, 2)), ("y", (1, 2)), ("z", (0, 2)))
        told = found((unknowns, (), ()))
        self.assertEqual(told, tuple(sorted((
            swap("x", values=(0, 1)), (swap("x", values=(1, 2)) + swap("y", values=(1, 2), domain=(1, 2))),
            (swap("x", values=(0, 2)) + swap("z", values=(0, 2), domain=(0, 2)))))))
