"""[7]: wishes, their worths, their ranges and the joined wish."""

import unittest

from aswritten.errors import BadWish, WrittenError
from aswritten.models import check_model
from aswritten.wishes import check_wishes, joined_worth, ranges, worths
from tests.samples import ODD_VALUES, all_tuples, changed_at_each_place, nested

XS = tuple(f"x{k:02}" for k in range(14))
WIDE = (tuple((x, (-200, 3, 200)) for x in XS), (), ())

UNKNOWNS = (("b", (-2, 0, 3)), ("a", (-1, 4)), ("c", (5,)))
SOFT = (("u", ("unlike", ("a", "b")), 7), ("l", ("least", (("a", 1), ("b", -1)), 0), 20),
        ("w", ("when", ("is", "a", 4), ("same", (("b", 1),), 3)), 100))
MODEL = (UNKNOWNS, (("s", ("least", (("a", 1), ("b", 1)), 0)),), SOFT)

PLAIN = (10, (("a", 3), ("b", -2)), 0)
PRICED = (-5, (("b", 1),), 1)
PRICES = (0, (), 1)


def is_right(model, value):
    try:
        return check_wishes(model, value) is None
    except BadWish as error:
        assert isinstance(error, WrittenError)
        return False


class CheckWishes(unittest.TestCase):
    def test_right_wishes(self):
        twelve = tuple((x, 100) for x in XS[:12])
        for value in (((0, (), 0),), ((0, (), 1),), ((1000000, twelve, 1),), ((-1000000, (("x13", -100),), 0),) * 3,
                      ((0, (), 0), (0, (), 0)), ((5, (("x00", 1), ("x13", -1)), 1), (0, (), 0), (1, (), 1))):
            with self.subTest(value):
                self.assertIsNone(check_wishes(WIDE, value))
                self.assertIsNone(check_wishes(model=WIDE, value=value))

    def test_wrong_numbers_of_wishes(self):
        right = (0, (), 0)
        for value in ((), (right,) * 4, (right,) * 1000, right):
            with self.subTest(len(value)):
                self.assertFalse(is_right(WIDE, value))

    def test_wrong_wishes(self):
        term = ("x00", 1)
        for wish in ((1000001, (), 0), (-1000001, (), 0), (True, (), 0), (None, (), 0), ("0", (), 0), (10 ** 29, (), 0),
                     (0, (), 2), (0, (), -1), (0, (), True), (0, (), False), (0, (), None), (0, (), "1"), (0, (), ()),
                     (0, ()), (0,), (), (0, (), 0, 0), ((), 0, 0), (0, None, 0), (0, 0, 0), (0, "", 0), (0, "x00", 0),
                     (0, term, 0), (0, (("x00", 0),), 0), (0, (("x00", 101),), 0), (0, (("x00", -101),), 0),
                     (0, (("x00", True),), 0), (0, (("x00", None),), 0), (0, (("x00",),), 0), (0, (("x00", 1, 1),), 0),
                     (0, ((1, "x00"),), 0), (0, (("q", 1),), 0), (0, (("",), 1), 0), (0, ((("x00",), 1),), 0),
                     (0, (term, term), 0), (0, (term, ("x00", 2)), 0), (0, (("x01", 1), term), 0),
                     (0, (term, ("x02", 1), ("x01", 1)), 0), (0, (term, None), 0), (0, (None, term), 0),
                     (0, ("ab", "cd"), 0), (0, (nested(20),), 0), (nested(20), (), 0), (0, nested(20), 0),
                     (0, tuple((x, 1) for x in XS[:13]), 0), None, True, 0, "abc", nested(27)):
            with self.subTest(wish):
                self.assertFalse(is_right(WIDE, (wish,)))
                self.assertFalse(is_right(WIDE, ((0, (), 0), wish)))
                self.assertFalse(is_right(WIDE, ((0, (), 0), (0, (), 1), wish)))

    def test_a_name_of_a_saying_is_no_name_of_an_unknown(self):
        for name in ("s", "u", "a1"):
            self.assertFalse(is_right(MODEL, ((0, ((name, 1),), 0),)))
        self.assertTrue(is_right(MODEL, ((0, (("a", 1), ("b", 1), ("c", 1)), 0),)))

    def test_ascending_is_meant_of_strings_not_of_the_model(self):
        self.assertTrue(is_right(MODEL, (PLAIN,)))
        self.assertFalse(is_right(MODEL, ((10, PLAIN[1][::-1], 0),)))
        model = ((("x9", (0,)), ("x10", (0,))), (), ())
        self.assertTrue(is_right(model, ((0, (("x10", 1), ("x9", 1)), 0),)))
        self.assertFalse(is_right(model, ((0, (("x9", 1), ("x10", 1)), 0),)))

    def test_values_of_any_form(self):
        for odd in ODD_VALUES:
            self.assertFalse(is_right(MODEL, odd))
            for changed in changed_at_each_place((PLAIN, PRICED, PRICES), odd):
                self.assertIn(is_right(MODEL, changed), (True, False))
        for odd in (None, True, False, nested(3), 10 ** 29):
            self.assertFalse(is_right(MODEL, (PLAIN, (odd, (), 0))))
            self.assertFalse(is_right(MODEL, (PLAIN, (0, (("a", odd),), 0))))
            self.assertFalse(is_right(MODEL, (PLAIN, (0, (), odd))))


class Worths(unittest.TestCase):
    def test_the_model_is_right(self):
        self.assertIsNone(check_model(MODEL))
        self.assertIsNone(check_wishes(MODEL, (PLAIN, PRICED, PRICES)))

    def test_without_prices(self):
        self.assertEqual(worths(MODEL, (PLAIN,), (3, 4, 5)), (16,))
        self.assertEqual(worths(MODEL, (PLAIN,), (-2, -1, 5)), (11,))
        self.assertEqual(worths(MODEL, ((7, (), 0),), (0, 4, 5)), (7,))

    def test_with_prices_of_what_does_not_hold(self):
        self.assertEqual(worths(MODEL, (PRICES,), (3, 4, 5)), (0,))
        self.assertEqual(worths(MODEL, (PRICES,), (0, 4, 5)), (100,))
        self.assertEqual(worths(MODEL, (PRICES,), (0, -1, 5)), (20,))
        self.assertEqual(worths(MODEL, (PRICED,), (3, -1, 5)), (18,))
        alike = ((("a", (1, 2)), ("b", (1, 2))), (), SOFT)
        self.assertEqual(worths(alike, ((1, (("a", 1),), 1),), (1, 1)), (9,))
        self.assertEqual(worths(alike, ((1, (("a", 1),), 1),), (1, 2)), (22,))

    def test_firm_sayings_cost_nothing(self):
        self.assertEqual(worths(MODEL, ((0, (), 1),), (-2, -1, 5)), (0,))

    def test_several_wishes_in_order(self):
        self.assertEqual(worths(MODEL, (PLAIN, PRICED, PRICES), (0, 4, 5)), (22, 95, 100))
        self.assertEqual(worths(MODEL, (PRICES, PLAIN), (0, 4, 5)), (100, 22))
        self.assertEqual(worths(model=MODEL, wishes=(PRICES,), filling=(0, 4, 5)), (100,))

    def test_at_the_bounds(self):
        terms = tuple((x, 100) for x in XS[:12])
        self.assertEqual(worths(WIDE, ((1000000, terms, 1),), (200,) * 14), (1240000,))
        self.assertEqual(worths(WIDE, ((-1000000, terms, 0),), (-200,) * 14), (-1240000,))


class Ranges(unittest.TestCase):
    def test_terms_by_the_ends_of_their_domains(self):
        self.assertEqual(ranges(MODEL, (PLAIN,)), ((10 - 3 - 6, 10 + 12 + 4),))
        self.assertEqual(ranges(MODEL, ((0, (("c", -2),), 0),)), ((-10, -10),))
        self.assertEqual(ranges(MODEL, ((4, (), 0),)), ((4, 4),))

    def test_prices_from_0_to_their_sum(self):
        self.assertEqual(ranges(MODEL, (PRICED, PRICES)), ((-7, -2 + 127), (0, 127)))
        self.assertEqual(ranges(model=(UNKNOWNS, (), ()), wishes=(PRICES,)), ((0, 0),))

    def test_three_wishes(self):
        self.assertEqual(ranges(MODEL, (PLAIN, PRICED, PRICES)), ((1, 26), (-7, 125), (0, 127)))

    def test_each_worth_lies_in_its_range(self):
        wishes = (PLAIN, PRICED, PRICES)
        for filling in all_tuples(UNKNOWNS):
            for worth, (low, high) in zip(worths(MODEL, wishes, filling), ranges(MODEL, wishes)):
                self.assertTrue(low <= worth <= high)


class JoinedWish(unittest.TestCase):
    def test_one_wish(self):
        self.assertEqual(joined_worth(MODEL, (PLAIN,), (0, 4, 5)), 22)
        self.assertEqual(joined_worth(MODEL, (PRICES,), (0, 4, 5)), 100)

    def test_two_wishes(self):
        self.assertEqual(joined_worth(MODEL, (PLAIN, PRICES), (0, 4, 5)), 22 * 128 + 100)
        self.assertEqual(joined_worth(MODEL, (PRICES, PLAIN), (0, 4, 5)), 100 * 26 + 22)

    def test_three_wishes(self):
        joined = joined_worth(MODEL, (PLAIN, PRICED, PRICES), (0, 4, 5))
        self.assertEqual(joined, 22 * 133 * 128 + 95 * 128 + 100)
        joined = joined_worth(model=MODEL, wishes=(PRICES, PLAIN, PRICED), filling=(3, -1, 5))
        self.assertEqual(joined, 20 * 26 * 133 + 1 * 133 + 18)

    def test_the_first_range_does_not_matter(self):
        self.assertEqual(joined_worth(MODEL, ((0, (), 0), (3, (), 0)), (0, 4, 5)), 3)
        self.assertEqual(joined_worth(MODEL, ((-9, (), 0), (3, (), 0)), (0, 4, 5)), -6)

    def test_it_orders_fillings_as_the_worths_do(self):
        fillings = all_tuples(UNKNOWNS)
        tight = ((0, (("a", -1),), 0), (0, (("b", 1),), 1), (2, (("a", 1), ("b", -1)), 0))
        for wishes in ((PLAIN,), (PRICES, PLAIN), (PRICED, PRICES), (PLAIN, PRICED, PRICES), (PRICES, PLAIN, PRICED),
                       tight, tight[::-1]):
            for one in fillings:
                for two in fillings:
                    less = worths(MODEL, wishes, one) < worths(MODEL, wishes, two)
                    self.assertEqual(joined_worth(MODEL, wishes, one) < joined_worth(MODEL, wishes, two), less)

    def test_at_the_ends_of_the_ranges(self):
        unknowns = (("a", (0, 1)), ("b", (-200, 200)))
        wishes = ((0, (("a", 1),), 0), (0, (("b", 100),), 0))
        lower = joined_worth((unknowns, (), ()), wishes, (0, 200))
        self.assertEqual(lower + 1, joined_worth((unknowns, (), ()), wishes, (1, -200)))
