"""[9]: rows, norm, denial, clashes, and values that are no rows."""

import itertools
import random
import unittest

from aswritten.errors import BadRow
from aswritten.rows import check_row, denial, norm, row_clashes, row_holds
from tests.notes import row, sign, total
from tests.samples import ODD_VALUES, changed_at_each_place, model_of_all_kinds

A, B, C = ("is", "a", 0), ("from", "a", 1), ("name", 3)
UNKNOWNS = (("a", (0, 1, 2)), ("b", (0, 1)))
MODEL = (UNKNOWNS, (("t", ("table", ("a",), ((1,),))),), (("k", ("unlike", ("a", "b")), 2),))


def worth(pairs, true):
    return sum(c for (sign, is_held), c in pairs if (sign in true) == is_held)


def settings(*signs):
    for many in range(len(signs) + 1):
        yield from itertools.combinations(signs, many)


class Norm(unittest.TestCase):
    def test_parts_are_gathered_and_stand_in_order(self):
        self.assertEqual(norm((((C, True), 2), ((A, True), 1), ((B, True), 3)), 2),
                         ((((B, True), 3), ((A, True), 1), ((C, True), 2)), 2))
        self.assertEqual(norm((((A, True), 1), ((A, True), 2)), 2), ((((A, True), 3),), 2))

    def test_both_sides_of_a_sign(self):
        # 2 * a + 3 * (1 - a) >= 2 is 3 - a >= 2, which is (1 - a) >= 0
        self.assertEqual(norm((((A, True), 2), ((A, False), 3)), 2), ((((A, False), 1),), 0))
        self.assertEqual(norm((((A, True), 3), ((A, False), 2)), 3), ((((A, True), 1),), 1))
        self.assertEqual(norm((((A, True), 2), ((A, False), 2)), 3), ((), 1))
        self.assertEqual(norm((((A, True), 2), ((A, False), 2)), 2), ((), 0))

    def test_coefficients_below_0_and_0(self):
        self.assertEqual(norm((((A, True), -2),), -1), ((((A, False), 2),), 1))
        self.assertEqual(norm((((A, False), -2),), -1), ((((A, True), 2),), 1))
        self.assertEqual(norm((((A, True), 0), ((B, False), 0)), 4), ((), 4))
        self.assertEqual(norm((((A, True), 5), ((A, True), -5)), 0), ((), 0))

    def test_a_least_below_0_becomes_0(self):
        self.assertEqual(norm((((A, True), 1),), -3), ((((A, True), 1),), 0))
        self.assertEqual(norm((((A, False), 4),), -3), ((((A, False), 4),), 0))
        self.assertEqual(norm((), -1), ((), 0))
        self.assertEqual(norm((), 7), ((), 7))
        self.assertEqual(norm((((A, True), -1),), -5), ((((A, False), 1),), 0))

    def test_great_numbers(self):
        great = 10 ** 59
        self.assertEqual(norm((((A, True), great), ((A, False), -great), ((B, True), -great)), great),
                         ((((B, False), great), ((A, True), 2 * great)), 3 * great))

    def test_says_the_same_in_every_setting(self):
        chance = random.Random(9)
        signs = (A, B, C, ("kept", "k"))
        for _ in range(300):
            pairs = tuple(((chance.choice(signs), chance.random() < 0.5), chance.randint(-4, 4))
                          for _ in range(chance.randint(0, 7)))
            least = chance.randint(-9, 9)
            parts, bound = norm(pairs, least)
            self.assertEqual(list(parts), sorted(parts))
            self.assertEqual(len({sign for (sign, is_held), c in parts}), len(parts))
            self.assertTrue(bound >= 0 and all(c >= 1 for side, c in parts))
            for true in settings(*signs):
                # the same difference, but where the least was below 0
                self.assertEqual(worth(pairs, true) >= least, worth(parts, true) >= bound)
                if bound > 0:
                    self.assertEqual(worth(pairs, true) - least, worth(parts, true) - bound)
            self.assertEqual(norm(parts, bound), (parts, bound))


class Denial(unittest.TestCase):
    def test_examples(self):
        self.assertEqual(denial(row("is a 0 -> from a 1")), total("1 is a 0 + 1 not from a 1 >= 2"))
        self.assertEqual(denial(total("2 is a 0 + 3 from a 1 >= 3")), total("2 not is a 0 + 3 not from a 1 >= 3"))
        self.assertEqual(denial(((), 0)), ((), 1))
        self.assertEqual(denial(((), 1)), ((), 0))
        self.assertEqual(denial(((), 9)), ((), 0))
        self.assertEqual(denial(total("2 is a 0 >= 0")), total("2 not is a 0 >= 3"))
        self.assertEqual(denial(total("2 is a 0 >= 5")), total("2 not is a 0 >= 0"))

    def test_holds_just_where_the_row_does_not(self):
        chance = random.Random(10)
        for _ in range(200):
            pairs = tuple(((sign, chance.random() < 0.5), chance.randint(1, 4)) for sign in (B, A, C)
                          if chance.random() < 0.8)
            one = (pairs, chance.randint(0, 8))
            parts, least = denial(one)
            for true in settings(A, B, C):
                self.assertNotEqual(worth(pairs, true) >= one[1], worth(parts, true) >= least)


class Clashes(unittest.TestCase):
    def test_at_the_edge(self):
        self.assertIs(row_clashes(total("2 is a 0 + 3 from a 1 >= 5")), False)
        self.assertIs(row_clashes(total("2 is a 0 + 3 from a 1 >= 6")), True)
        self.assertIs(row_clashes(((), 0)), False)
        self.assertIs(row_clashes(((), 1)), True)


class RowHolds(unittest.TestCase):
    def test_sums_of_sides(self):
        one = total("2 is a 1 + 3 not from a 2 + 1 row t 0 + 4 kept k >= 6")
        told = {filling: row_holds(MODEL, one, filling) for filling in itertools.product((0, 1, 2), (0, 1))}
        # (0, 0): 3; (0, 1): 3 + 4; (1, 0): 2 + 3 + 1 + 4; (1, 1): 2 + 3 + 1; (2, 0): 4; (2, 1): 4
        self.assertEqual([filling for filling in told if told[filling] is True], [(0, 1), (1, 0), (1, 1)])
        self.assertEqual([filling for filling in told if told[filling] is False], [(0, 0), (2, 0), (2, 1)])

    def test_without_parts(self):
        self.assertIs(row_holds(MODEL, ((), 0), (0, 0)), True)
        self.assertIs(row_holds(MODEL, ((), 1), (0, 0)), False)
        self.assertIs(row_holds(model=MODEL, row=((), 1), filling=(0, 0)), False)


class CheckRow(unittest.TestCase):
    def is_right(self, value):
        try:
            self.assertIsNone(check_row(MODEL, value))
        except BadRow:
            return False
        return True

    def test_right_rows(self):
        for value in (((), 0), ((), 10 ** 40), row("is a 1, from b 1 -> row t 0, kept k, name 7"),
                      total("3 is a 0 + 9 not is b 1 >= 0"), total("1 name 0 + 2 not name 5 >= 100")):
            self.assertTrue(self.is_right(value), value)

    def test_rows_that_are_wrong_in_one_thing(self):
        side, other = (("is", "a", 1), True), (("is", "b", 1), False)
        wrong = (
            (((other, 1), (side, 1)), 1), (((side, 1), (side, 1)), 1), (((side, 1), ((side[0], False), 1)), 1),
            ((((side[0], False), 1), (side, 1)), 1), (((side, 0),), 1), (((side, -1),), 1), (((side, 1),), -1),
            (((side, True),), 1), (((side, 1),), True), (((side, 1),), False), ((((side[0], 1), 1),), 1),
            ((((side[0], 0), 1),), 1), ((((("is", "a", True), True), 1),), 1), ((((("is", "a", 5), True), 1),), 1),
            ((((("from", "a", 0), True), 1),), 1), ((((("name", -1), True), 1),), 1),
            ((((("name", True), True), 1),), 1),
            ((((("is", "z", 0), True), 1),), 1), (((side, 1, 1),), 1), ((side,), 1), (((side, "1"),), 1),
            (((side, 1),), None), (((side, 1),),), ([(side, 1)], 1), (((side, 1),), 1, 1), ((((side[0],), 1),), 1),
            ((((side[0], None), 1),), 1), ((((), True), 1),), (((((), True), 1),), 1), (((None, 1),), 1), ((None,), 1),
            (None, 1), ((((("if", "t"), True), 1),), 1), ((((("kept", "t"), True), 1),), 1),
        )
        for value in wrong:
            self.assertFalse(self.is_right(value), value)

    def test_rows_that_are_spoilt_at_each_place(self):
        right = total("2 is a 1 + 1 not is b 0 + 3 row t 0 >= 2")
        signs = [("is", "a", v) for v in (0, 1, 2)] + [("is", "b", v) for v in (0, 1)] + [("row", "t", 0)]
        signs += [("from", "a", 1), ("from", "a", 2), ("from", "b", 1), ("kept", "k")]
        for odd in (True, False, None, -1, 0, 1, 2, 7, "a", "b", "is", (), sign("name 0"), (sign("is a 1"), True)):
            for value in changed_at_each_place(right, odd):
                self.assertIs(self.is_right(value), is_row(signs, value), value)

    def test_odd_values(self):
        for value in ODD_VALUES:
            self.assertFalse(self.is_right(value), value)
            self.assertFalse(self.is_right((value, 1)) and value != (), value)
            self.assertIs(self.is_right(((), value)), type(value) is int and value >= 0, value)
            self.assertFalse(self.is_right((((value, True), 1), 1)), value)
            self.assertIs(self.is_right(((((value, True), 1),), 1)), repr(value) == repr(("from", "a", 1)), value)

    def test_signs_of_all_kinds_in_their_order(self):
        model = model_of_all_kinds()
        told = row("-> even s.ahead 0, from a 1, if s.when, is a 0, kept t.works, name 0, row s.table 1, "
                   "stand s.round 1 1")
        self.assertIsNone(check_row(model, told))
        for k in range(len(told[0]) - 1):
            parts = list(told[0])
            parts[k], parts[k + 1] = parts[k + 1], parts[k]
            with self.assertRaises(BadRow):
                check_row(model, (tuple(parts), 1))


def is_row(signs, value):
    """What a row is, told by its text, in which True and 1 are different."""
    if type(value) is not tuple or len(value) != 2 or type(value[1]) is not int or value[1] < 0:
        return False
    if type(value[0]) is not tuple:
        return False
    texts = {repr(sign): sign for sign in signs}
    met = []
    for part in value[0]:
        if type(part) is not tuple or len(part) != 2 or type(part[1]) is not int or part[1] < 1:
            return False
        side = part[0]
        if type(side) is not tuple or len(side) != 2 or type(side[1]) is not bool:
            return False
        if repr(side[0]) not in texts and not (repr(side[0]).startswith("('name', ") and len(side[0]) == 2
                                               and type(side[0][1]) is int and side[0][1] >= 0):
            return False
        met.append(side[0])
    return all(met[k] < met[k + 1] for k in range(len(met) - 1))
