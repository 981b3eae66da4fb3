"""[4]: the parts of a model, their items, and which item BadModel names."""

import unittest

from aswritten.models import check_model
from tests.samples import ODD_VALUES, SAYINGS, SMALL_UNKNOWNS, changed_at_each_place, fault
from tests.samples import model_of_all_kinds, nested, nested_not

ONE = (("a", (0, 1)),)
SAID = ("least", (("a", 1),), 0)


def many_unknowns(many):
    return tuple((f"x{k}", (0, 1)) for k in range(many))


def many_sayings(many):
    return tuple((f"s{k}", SAID) for k in range(many))


def many_soft(many):
    return tuple((f"t{k}", SAID, 1) for k in range(many))


class RightModels(unittest.TestCase):
    def test_right_models_give_none(self):
        for value in ((ONE, (), ()), (ONE, (("s", SAID),), (("t", SAID, 1),)), model_of_all_kinds()):
            with self.subTest(value):
                self.assertIsNone(check_model(value))
                self.assertIsNone(check_model(value=value))

    def test_each_kind_is_right_firm_and_soft(self):
        for word, saying in SAYINGS.items():
            with self.subTest(word):
                self.assertIsNone(check_model((SMALL_UNKNOWNS, (("s", saying),), ())))
                self.assertIsNone(check_model((SMALL_UNKNOWNS, (), (("s", saying, 100),))))


class WholeModel(unittest.TestCase):
    def test_no_triple_of_tuples(self):
        right = (ONE, (), ())
        for value in (None, True, 0, "", "abc", (), (ONE,), (ONE, ()), (ONE, (), (), ()), right + ((),), (right,),
                      (ONE, (), None), (ONE, "", ()), ("abc", (), ()), (None, None, None), (ONE, True, ()),
                      ((), (), 1), ((), "s", ()), nested(29), nested_not(29, ("is", "a", 1)), ("", "", "")):
            with self.subTest(value):
                self.assertEqual(fault(value), ("model", -1))

    def test_no_unknowns(self):
        for value in (((), (), ()), ((), (1,), ()), ((), many_sayings(41), (None,))):
            with self.subTest(value):
                self.assertEqual(fault(value), ("unknowns", 0))


class Items(unittest.TestCase):
    def fault_of_second(self, part, item):
        parts = {"unknowns": ONE, "sayings": (("s", SAID),), "soft": (("t", SAID, 3),)}
        parts[part] = parts[part] + (item,)
        return fault((parts["unknowns"], parts["sayings"], parts["soft"]))

    def test_names(self):
        for name in ("b", "b" * 24, "0", "9.", ".", "...", "a.b.1", "abcdefghijklmnopqrstuvwx", "yz0123456789."):
            with self.subTest(name):
                self.assertIsNone(self.fault_of_second("unknowns", (name, (0,))))
                self.assertIsNone(self.fault_of_second("sayings", (name, SAID)))
                self.assertIsNone(self.fault_of_second("soft", (name, SAID, 1)))

    def test_wrong_names(self):
        for name in ("", "b" * 25, "B", "b_c", "b-c", "b c", "b\n", "`", "{", "/", ":", "%", "x" * 20000,
                     None, True, 0, ("b",), (), nested(26)):
            with self.subTest(name):
                self.assertEqual(self.fault_of_second("unknowns", (name, (0,))), ("unknowns", 1))
                self.assertEqual(self.fault_of_second("sayings", (name, SAID)), ("sayings", 1))
                self.assertEqual(self.fault_of_second("soft", (name, SAID, 1)), ("soft", 1))

    def test_domains(self):
        for domain in ((0,), (-200,), (200,), (-200, 200), tuple(range(12)), (-3, 0, 7)):
            with self.subTest(domain):
                self.assertIsNone(self.fault_of_second("unknowns", ("b", domain)))

    def test_wrong_domains(self):
        for domain in ((), (-201,), (201,), tuple(range(13)), (1, 0), (0, 0), (0, 2, 1), (0, 1, 1), (10 ** 29,), 0,
                       None, "", "01", ("0",), (True,), (False, True), (0, True), (False, 1), (None,), (0, None),
                       ((0,),), ((0,), (1,)), (0, "1"), (0, (1,)), nested(26), (0, nested(26))):
            with self.subTest(domain):
                self.assertEqual(self.fault_of_second("unknowns", ("b", domain)), ("unknowns", 1))

    def test_items_of_another_form(self):
        for part, right in (("unknowns", ("b", (0,))), ("sayings", ("b", SAID)), ("soft", ("b", SAID, 5))):
            for item in ((), right[:1], right[:-1], right + (1,), right + (None,), None, True, 5, "", "ab", "abc",
                         right[::-1], (right,), nested(28), (nested(26), nested(26)), ("b",) * 3):
                with self.subTest((part, item)):
                    self.assertEqual(self.fault_of_second(part, item), (part, 1))

    def test_prices(self):
        for price in (1, 2, 99, 100):
            with self.subTest(price):
                self.assertIsNone(self.fault_of_second("soft", ("b", SAID, price)))
        for price in (0, -1, 101, 10 ** 29, True, False, None, "1", (1,), ()):
            with self.subTest(price):
                self.assertEqual(self.fault_of_second("soft", ("b", SAID, price)), ("soft", 1))

    def test_soft_sayings_are_no_firm_ones(self):
        self.assertEqual(self.fault_of_second("sayings", ("b", SAID, 1)), ("sayings", 1))
        self.assertEqual(self.fault_of_second("soft", ("b", SAID)), ("soft", 1))


class Bounds(unittest.TestCase):
    def test_numbers_of_items(self):
        unknowns = (("a", (0,)),) + many_unknowns(23)
        self.assertIsNone(fault((unknowns, many_sayings(40), many_soft(8))))
        self.assertEqual(fault((unknowns + (("y", (0,)),), (), ())), ("unknowns", 24))
        self.assertEqual(fault((ONE, many_sayings(41), ())), ("sayings", 40))
        self.assertEqual(fault((ONE, (), many_soft(9))), ("soft", 8))

    def test_the_first_of_many_beyond_the_bound(self):
        self.assertEqual(fault((many_unknowns(1000), (), ())), ("unknowns", 24))
        self.assertEqual(fault((ONE, many_sayings(300) + (None,), (None,))), ("sayings", 40))
        self.assertEqual(fault((ONE, (), many_soft(100))), ("soft", 8))

    def test_a_wrong_item_before_the_bound_comes_first(self):
        unknowns = many_unknowns(30)
        self.assertEqual(fault((unknowns[:5] + (None,) + unknowns[5:], (), ())), ("unknowns", 5))
        self.assertEqual(fault((unknowns[:24] + (None,), (), ())), ("unknowns", 24))
        sayings = many_sayings(50)
        self.assertEqual(fault((ONE, sayings[:39] + (("S", SAID),) + sayings[39:], ())), ("sayings", 39))
        soft = many_soft(20)
        self.assertEqual(fault((ONE, (), soft[:7] + (soft[0],) + soft[7:])), ("soft", 7))


class SeveralWrong(unittest.TestCase):
    def test_the_first_item_of_the_first_part(self):
        wrong = ("b", ())
        self.assertEqual(fault((ONE + (wrong, wrong), (None,), (None,))), ("unknowns", 1))
        self.assertEqual(fault(((wrong,) + ONE, (None,), (None,))), ("unknowns", 0))
        said = ("s", SAID)
        self.assertEqual(fault((ONE, (said, None, None), (None,))), ("sayings", 1))
        self.assertEqual(fault((ONE, (said,), (("t", SAID, 1), ("u", SAID, 1), None, None))), ("soft", 2))

    def test_a_name_that_came_before_in_its_part(self):
        self.assertEqual(fault((ONE + (("b", (0,)), ("a", (0,)), ("b", (0,))), (), ())), ("unknowns", 2))
        self.assertEqual(fault((ONE + ONE, (), ())), ("unknowns", 1))
        self.assertEqual(fault((ONE, (("s", SAID), ("t", SAID), ("t", SAID)), ())), ("sayings", 2))
        self.assertEqual(fault((ONE, (), (("s", SAID, 1), ("s", SAID, 2)))), ("soft", 1))

    def test_a_name_that_came_before_in_another_part(self):
        self.assertEqual(fault((ONE, (("s", SAID), ("a", SAID)), ())), ("sayings", 1))
        self.assertEqual(fault((ONE, (), (("a", SAID, 1),))), ("soft", 0))
        self.assertEqual(fault((ONE, (("s", SAID),), (("t", SAID, 1), ("s", SAID, 1)))), ("soft", 1))

    def test_a_name_that_comes_again_before_something_else_is_wrong(self):
        self.assertEqual(fault((ONE, (("a", SAID), ("s", None)), ())), ("sayings", 0))
        self.assertEqual(fault((ONE, (("s", None), ("a", SAID)), ())), ("sayings", 0))

    def test_sayings_speak_of_unknowns_alone(self):
        for said in (("least", (("s", 1),), 0), ("least", (("zz", 1),), 0), ("least", (("A", 1),), 0)):
            with self.subTest(said):
                self.assertEqual(fault((ONE, (("r", SAID), ("s", said)), ())), ("sayings", 1))
                self.assertEqual(fault((ONE, (("s", SAID),), (("t", said, 1),))), ("soft", 0))


class AnyValue(unittest.TestCase):
    def test_odd_values_anywhere(self):
        for odd in ODD_VALUES:
            self.assertEqual(fault(odd), ("model", -1))
            for changed in changed_at_each_place(model_of_all_kinds(), odd):
                told = fault(changed)
                self.assertIn(told and told[0], (None, "model", "unknowns", "sayings", "soft"))

    def test_an_odd_value_in_an_item_is_told_there(self):
        model = model_of_all_kinds()
        for at, part in ((1, "sayings"), (2, "soft")):
            for number, item in enumerate(model[at]):
                for odd in (None, True, (), nested(20), -(10 ** 29), "Z"):
                    for changed in changed_at_each_place(item, odd):
                        items = model[at][:number] + (changed,) + model[at][number + 1:]
                        told = fault(model[:at] + (items,) + model[at + 1:])
                        self.assertIn(told, (None, (part, number)))

    def test_no_place_of_a_saying_takes_these_values(self):
        model = model_of_all_kinds()
        for odd in (None, True, False, 10 ** 29, "Z", nested(3)):
            for number, (name, saying) in enumerate(model[1]):
                for changed in changed_at_each_place(saying, odd):
                    if odd_stands(changed, odd):
                        items = model[1][:number] + ((name, changed),) + model[1][number + 1:]
                        self.assertEqual(fault((model[0], items, model[2])), ("sayings", number))


def odd_stands(value, odd):
    """Whether odd is a part of value; True and 1 are told apart."""
    if isinstance(value, tuple) and not (isinstance(odd, tuple) and value == odd):
        return any(odd_stands(item, odd) for item in value)
    return type(value) is type(odd) and value == odd
