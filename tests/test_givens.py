"""[10] to [13]: given rows, sign rows and telling rows, word for word."""

import unittest

from aswritten.errors import UnknownName
from aswritten.givens import given_row, sign_rows, telling_rows
from tests.notes import row, rows, total
from tests.samples import ODD_VALUES, changed_at_each_place, model_of_all_kinds

UNKNOWNS = (("x", (0, 1, 2)), ("y", (0, 2)), ("z", (-1, 1, 4)), ("u", (5,)), ("p", (-1, 0, 1, 3)))


def model_of(saying, unknowns=UNKNOWNS):
    """The saying itself, as a soft saying, within a "when", and within a soft one."""
    when = ("when", ("is", "u", 5), saying)
    return (unknowns, (("s", saying), ("w", when)), (("t", saying, 3), ("v", when, 4)))


def renamed(told, name):
    return tuple((tuple(sorted(((renamed_sign(sign, name), worth), c) for (sign, worth), c in parts)), least)
                 for parts, least in told)


def renamed_sign(sign, name):
    return (sign[0], name) + sign[2:] if sign[0] in ("row", "stand", "even") else sign


def with_sides(told, *signs):
    return tuple((tuple(sorted(parts + tuple(((sign, False), least) for sign in signs))), least)
                 if least > 0 else (parts, least) for parts, least in told)


WHEN_ROWS = """is u 5 -> if {0}"""


class UnknownRows(unittest.TestCase):
    model = (UNKNOWNS, (), ())

    def given(self, *name):
        return given_row(self.model, name)

    def test_chains(self):
        self.assertEqual(self.given("chain", "x", 1), row("from x 2 -> from x 1"))
        self.assertEqual(self.given("chain", "z", 1), row("from z 4 -> from z 1"))
        self.assertEqual(self.given("chain", "p", 0), row("from p 1 -> from p 0"))
        self.assertEqual(self.given("chain", "p", 1), row("from p 3 -> from p 1"))
        for name in (("x", 0), ("x", 2), ("x", 3), ("y", 0), ("y", 2), ("y", 1), ("u", 5), ("p", -1), ("p", 3),
                     ("p", 2)):
            with self.assertRaises(UnknownName):
                self.given("chain", *name)

    def test_parts(self):
        self.assertEqual(self.given("part", "z", 1, 0), total("1 is z 1 + 1 not from z 1 + 1 from z 4 >= 1"))
        self.assertEqual(self.given("part", "z", 1, 1), total("1 not is z 1 + 1 from z 1 + 1 not from z 4 >= 2"))
        self.assertEqual(self.given("part", "z", -1, 0), total("1 is z -1 + 1 from z 1 >= 1"))
        self.assertEqual(self.given("part", "z", -1, 1), total("1 not is z -1 + 1 not from z 1 >= 1"))
        self.assertEqual(self.given("part", "z", 4, 0), total("1 is z 4 + 1 not from z 4 >= 1"))
        self.assertEqual(self.given("part", "z", 4, 1), total("1 not is z 4 + 1 from z 4 >= 1"))
        self.assertEqual(self.given("part", "u", 5, 0), total("1 is u 5 >= 1"))
        self.assertEqual(self.given("part", "u", 5, 1), total("1 not is u 5 >= 0"))

    def test_ones(self):
        self.assertEqual(self.given("one", "x", 0), total("1 is x 0 + 1 is x 1 + 1 is x 2 >= 1"))
        self.assertEqual(self.given("one", "x", 1), total("1 not is x 0 + 1 not is x 1 + 1 not is x 2 >= 2"))
        self.assertEqual(self.given("one", "u", 0), total("1 is u 5 >= 1"))
        self.assertEqual(self.given("one", "u", 1), total("1 not is u 5 >= 0"))

    def test_names_that_are_wrong_in_one_thing(self):
        right = [("part", "x", v, k) for v in (0, 1, 2) for k in (0, 1)]
        right += [("chain", "x", 1), ("one", "x", 0), ("one", "x", 1)]
        texts = [repr(name) for name in right]
        for name in right:
            self.assertIsNotNone(given_row(self.model, name))
            for odd in (True, False, -1, 2, 3, None, "x", "q", "is", (), (1,)):
                for value in changed_at_each_place(name, odd):
                    if repr(value) not in texts:
                        with self.assertRaises(UnknownName) as caught:
                            given_row(self.model, value)
                        self.assertEqual(repr(caught.exception.name), repr(value))


class SayingRows(unittest.TestCase):
    def check(self, saying, signs, tells, unknowns=UNKNOWNS):
        """Compare all rows of the saying, as a saying, as a soft one, within a "when" and within a soft "when"."""
        model = model_of(saying, unknowns)
        signs, tells = rows(signs), rows(tells)
        self.assertEqual(sign_rows(model, "s"), signs)
        self.assertEqual(telling_rows(model, "s"), tells)
        self.assertEqual(sign_rows(model, "t"), renamed(signs, "t"))
        self.assertEqual(telling_rows(model, "t"), with_sides(renamed(tells, "t"), ("kept", "t")))
        self.assertEqual(sign_rows(model, "w"), renamed(signs, "w") + rows(WHEN_ROWS.format("w")))
        self.assertEqual(telling_rows(model, "w"), with_sides(renamed(tells, "w"), ("if", "w")))
        self.assertEqual(sign_rows(model, "v"), renamed(signs, "v") + rows(WHEN_ROWS.format("v")))
        self.assertEqual(telling_rows(model, "v"), with_sides(renamed(tells, "v"), ("if", "v"), ("kept", "v")))
        for name in "stwv":
            for word, told in (("sign", sign_rows(model, name)), ("tells", telling_rows(model, name))):
                for k, one in enumerate(told):
                    self.assertEqual(given_row(model, (word, name, k)), one)
                for k in (-1, len(told), True, False, None, "0"):
                    with self.assertRaises(UnknownName) as caught:
                        given_row(model, (word, name, k))
                    self.assertEqual(repr(caught.exception.name), repr((word, name, k)))

    def test_least(self):
        # 2 * x - 3 * z is 3 + 2 * from(x, 1) + 2 * from(x, 2) - 6 * from(z, 1) - 9 * from(z, 4)
        self.check(("least", (("x", 2), ("z", -3)), 1), "",
                   "2 from x 1 + 2 from x 2 + 6 not from z 1 + 9 not from z 4 >= 13")
        self.check(("least", (("y", 1), ("u", -2)), -10), "", "2 from y 2 >= 0")
        self.check(("least", (("u", 1),), 6), "", ">= 1")
        self.check(("least", (("y", 5),), -1000000), "", "10 from y 2 >= 0")

    def test_same(self):
        self.check(("same", (("x", 2), ("z", -3)), 1), "", """
            2 from x 1 + 2 from x 2 + 6 not from z 1 + 9 not from z 4 >= 13
            2 not from x 1 + 2 not from x 2 + 6 from z 1 + 9 from z 4 >= 6""")
        self.check(("same", (("y", 1),), 2), "", "2 from y 2 >= 2\n2 not from y 2 >= 0")

    def test_unlike(self):
        self.check(("unlike", ("z", "x", "y", "u")), "", """
            1 not is x 0 + 1 not is y 0 >= 1
            1 not is x 1 + 1 not is z 1 >= 1
            1 not is x 2 + 1 not is y 2 >= 1""")
        self.check(("unlike", ("x", "y", "p")), "", """
            1 not is x 0 + 1 not is y 0 + 1 not is p 0 >= 2
            1 not is x 1 + 1 not is p 1 >= 1
            1 not is x 2 + 1 not is y 2 >= 1""")
        self.check(("unlike", ("x",)), "", "")
        self.check(("unlike", ("x", "u")), "", "")

    def test_counts(self):
        self.check(("counts", ("y", "x", "p"), ((-1, 0, 0), (0, 1, 2), (2, 2, 12), (9, 0, 3), (10, 1, 1))), "", """
            1 is p -1 >= 0
            1 not is p -1 >= 1
            1 is x 0 + 1 is y 0 + 1 is p 0 >= 1
            1 not is x 0 + 1 not is y 0 + 1 not is p 0 >= 1
            1 is x 2 + 1 is y 2 >= 2
            1 not is x 2 + 1 not is y 2 >= 0
            >= 0
            >= 0
            >= 1
            >= 0""")

    def test_table(self):
        self.check(("table", ("y", "x"), ((-5, 0), (0, 1), (2, 1), (2, 3))), """
            row s 0 ->
            row s 1 -> is y 0
            row s 1 -> is x 1
            is y 0, is x 1 -> row s 1
            row s 2 -> is y 2
            row s 2 -> is x 1
            is y 2, is x 1 -> row s 2
            row s 3 ->""", """
            1 row s 0 + 1 row s 1 + 1 row s 2 + 1 row s 3 >= 1
            is y 0 -> row s 1
            is y 2 -> row s 2, row s 3
            is x 0 -> row s 0
            is x 1 -> row s 1, row s 2
            is x 2 ->""")
        self.check(("table", ("y",), ()), "", ">= 1\nis y 0 ->\nis y 2 ->")

    def test_bar(self):
        self.check(("bar", ("y", "x"), ((-5, 0), (0, 1), (2, 1), (2, 3))), "", "is y 0, is x 1 ->\nis y 2, is x 1 ->")
        self.check(("bar", ("y",), ()), "", "")

    def test_pick(self):
        self.check(("pick", "p", ("x", "y"), "z"), "", """
            is p -1 ->
            is p 3 ->
            is p 0, is z -1 ->
            is p 0, is x 0 ->
            is p 0, is x 1 -> is z 1
            is p 0, is z 1 -> is x 1
            is p 0, is x 2 ->
            is p 0, is z 4 ->
            is p 1, is z -1 ->
            is p 1, is y 0 ->
            is p 1, is z 1 ->
            is p 1, is y 2 ->
            is p 1, is z 4 ->""")
        self.check(("pick", "y", ("x",), "p"), "", """
            is y 2 ->
            is y 0, is p -1 ->
            is y 0, is x 0 -> is p 0
            is y 0, is p 0 -> is x 0
            is y 0, is x 1 -> is p 1
            is y 0, is p 1 -> is x 1
            is y 0, is x 2 ->
            is y 0, is p 3 ->""")

    def test_top(self):
        # for x: 0 is always behind, as -1 is the least of z; 2 is from 4; for y likewise
        self.check(("top", ("x", "y"), "z"), "", """
            -> from z 1
            from x 1 -> from z 1
            from x 2 -> from z 4
            -> from z 1
            from y 2 -> from z 4
            from z 1 -> from x 1, from y 2
            from z 4 ->""")
        self.check(("top", ("u", "z"), "y"), "", """
            ->
            from z 1 -> from y 2
            from z 4 ->""")
        self.check(("top", ("y",), "x"), "", """
            from y 2 -> from x 2
            from x 1 -> from y 2
            from x 2 -> from y 2""")

    def test_product(self):
        self.check(("product", "x", "y", "z"), "", """
            is x 0, is y 0 ->
            is x 0, is y 2 ->
            is x 1, is y 0 ->
            is x 1, is y 2 ->
            is x 2, is y 0 ->
            is x 2, is y 2 -> is z 4""")

    def test_ahead(self):
        self.check(("ahead", ("x", "y"), ("p", "z")), """
            -> even s 0
            even s 1 -> even s 0
            even s 1, is x 0 -> is p 0
            even s 0, is x 0, is p 0 -> even s 1
            even s 1, is x 1 -> is p 1
            even s 0, is x 1, is p 1 -> even s 1
            even s 1, is x 2 ->
            even s 2 -> even s 1
            even s 2, is y 0 ->
            even s 2, is y 2 ->""", """
            even s 0 -> from p 0
            even s 0, from x 1 -> from p 1
            even s 0, from x 2 -> from p 3
            even s 1 -> from z 1
            even s 1, from y 2 -> from z 4""")
        self.check(("ahead", ("x",), ("y",)), """
            -> even s 0
            even s 1 -> even s 0
            even s 1, is x 0 -> is y 0
            even s 0, is x 0, is y 0 -> even s 1
            even s 1, is x 1 ->
            even s 1, is x 2 -> is y 2
            even s 0, is x 2, is y 2 -> even s 1""", """
            even s 0, from x 1 -> from y 2
            even s 0, from x 2 -> from y 2""")
        # the least value of x is always reached, which y never reaches
        self.check(("ahead", ("u",), ("y",)), """
            -> even s 0
            even s 1 -> even s 0
            even s 1, is u 5 ->""", "even s 0 ->")

    def test_machine(self):
        self.check(("machine", ("y", "u"), 3, ((0, 2, 0), (0, 5, 3), (3, 0, 0), (3, 2, 0), (3, 9, 7)), (0, 5, 7)), """
            -> stand s 0 3
            stand s 0 0 ->
            stand s 0 7 ->
            stand s 0 0, is y 2 -> stand s 1 0
            stand s 0 3, is y 0 -> stand s 1 0
            stand s 0 3, is y 2 -> stand s 1 0
            stand s 1 0, is y 0 -> stand s 0 3
            stand s 1 0, is y 2 -> stand s 0 0, stand s 0 3
            stand s 1 3, is y 0 ->
            stand s 1 3, is y 2 ->
            stand s 1 7, is y 0 ->
            stand s 1 7, is y 2 ->
            1 not stand s 1 0 + 1 not stand s 1 3 + 1 not stand s 1 7 >= 2
            stand s 1 0, is u 5 -> stand s 2 3
            stand s 2 0, is u 5 ->
            stand s 2 3, is u 5 -> stand s 1 0
            stand s 2 7, is u 5 ->
            1 not stand s 2 0 + 1 not stand s 2 3 + 1 not stand s 2 7 >= 2""", "1 stand s 2 0 + 1 stand s 2 7 >= 1")
        self.check(("machine", ("u",), 3, (), (4,)), """
            -> stand s 0 3
            stand s 1 3, is u 5 ->
            1 not stand s 1 3 >= 0""", ">= 1")

    def test_works(self):
        # at each moment: [x >= t - 1] - [x >= t + 1], 4 * ([z >= t - 2] - [z >= t + 1])
        self.check(("works", ("x", "z"), (2, 3), (3, 4), 5), "", """
            4 from z 1 >= 0
            3 from x 1 + 4 from z 1 >= 2
            3 from x 2 + 4 from z 4 >= 2
            3 not from x 1 + 4 not from z 1 + 4 from z 4 >= 2
            4 not from z 4 >= 0""")
        self.check(("works", ("x", "p"), (1, 1), (1, 1), 1), "", """
            1 from p 0 >= 0
            1 from x 1 + 1 not from p 0 + 1 from p 1 >= 1
            1 not from x 1 + 1 from x 2 + 1 not from p 1 + 1 from p 3 >= 1
            1 not from x 2 >= 0
            1 not from p 3 >= 0""")
        self.check(("works", ("u",), (50,), (0,), 0), "", ">= 0")
        self.check(("works", ("y",), (2,), (4,), 3), "", "4 from y 2 >= 1\n4 not from y 2 >= 1")

    def test_round(self):
        self.check(("round", ("x", "y")), """
            -> stand s 0 0
            stand s 0 1 ->
            stand s 0 0, is x 0 -> stand s 1 0
            stand s 0 0, is x 1 -> stand s 1 1
            stand s 0 1, is y 0 -> stand s 1 0
            stand s 1 0, stand s 0 0 -> is x 0
            stand s 1 0, stand s 0 1 -> is y 0
            stand s 1 1, stand s 0 0 -> is x 1
            stand s 1 1, stand s 0 1 ->
            stand s 1 0 -> stand s 0 0, stand s 0 1
            stand s 1 1 -> stand s 0 0, stand s 0 1
            1 not stand s 1 0 + 1 not stand s 1 1 >= 1
            stand s 1 0, is x 0 -> stand s 2 0
            stand s 1 0, is x 1 -> stand s 2 1
            stand s 1 1, is y 0 -> stand s 2 0
            stand s 2 0, stand s 1 0 -> is x 0
            stand s 2 0, stand s 1 1 -> is y 0
            stand s 2 1, stand s 1 0 -> is x 1
            stand s 2 1, stand s 1 1 ->
            stand s 2 0 -> stand s 1 0, stand s 1 1
            stand s 2 1 -> stand s 1 0, stand s 1 1
            1 not stand s 2 0 + 1 not stand s 2 1 >= 1""", """
            is x 2 ->
            is y 2 ->
            1 not is x 0 + 1 not is y 0 >= 1
            1 not is x 2 + 1 not is y 2 >= 1
            stand s 1 0 ->
            -> stand s 2 0
            1 not stand s 0 0 + 1 not stand s 1 0 >= 1
            1 not stand s 0 1 + 1 not stand s 1 1 >= 1""")
        self.check(("round", ("u",)), """
            -> stand s 0 0
            stand s 1 0, stand s 0 0 ->
            stand s 1 0 -> stand s 0 0
            1 not stand s 1 0 >= 0""", """
            is u 5 ->
            -> stand s 1 0
            1 not stand s 0 0 >= 0""")

    def test_claim(self):
        claim = ("or", (("is", "y", 2), ("and", (("from", "x", 1), ("not", ("is", "x", 2)), ("is", "y", 7)))))
        self.check(("claim", claim), "", "is y 0, is x 0 ->\nis y 0, is x 1 ->\nis y 0, is x 2 ->")
        self.check(("claim", ("and", (("is", "x", 9), ("or", ())))), "", "is x 0 ->\nis x 1 ->\nis x 2 ->")
        self.check(("claim", ("or", (("is", "x", 9), ("and", ())))), "", "")
        self.check(("claim", ("not", ("from", "z", 2))), "", "is z 4 ->")

    def test_when(self):
        claim = ("and", (("from", "y", 1), ("not", ("is", "x", 0)), ("from", "y", -3)))
        model = (UNKNOWNS, (("w", ("when", claim, ("unlike", ("x", "y")))),),
                 (("v", ("when", claim, ("claim", claim)), 2),))
        signs = """
            is y 0, is x 0, if {0} ->
            is y 0, is x 1, if {0} ->
            is y 0, is x 2, if {0} ->
            is y 2, is x 0, if {0} ->
            is y 2, is x 1 -> if {0}
            is y 2, is x 2 -> if {0}"""
        self.assertEqual(sign_rows(model, "w"), rows(signs.format("w")))
        self.assertEqual(sign_rows(model, "v"), rows(signs.format("v")))
        self.assertEqual(telling_rows(model, "w"), rows("""
            1 not is x 0 + 1 not is y 0 + 1 not if w >= 1
            1 not is x 2 + 1 not is y 2 + 1 not if w >= 1"""))
        self.assertEqual(telling_rows(model, "v"), rows("""
            is y 0, is x 0, if v, kept v ->
            is y 0, is x 1, if v, kept v ->
            is y 0, is x 2, if v, kept v ->
            is y 2, is x 0, if v, kept v ->"""))

    def test_parts_of_if_and_kept_have_the_least(self):
        saying = ("least", (("x", 5), ("y", 1)), 8)
        model = (UNKNOWNS, (("w", ("when", ("is", "x", 1), saying)),), (("v", ("when", ("is", "x", 1), saying), 2),))
        self.assertEqual(telling_rows(model, "w"), rows("5 from x 1 + 5 from x 2 + 2 from y 2 + 8 not if w >= 8"))
        self.assertEqual(telling_rows(model, "v"),
                         rows("5 from x 1 + 5 from x 2 + 2 from y 2 + 8 not if v + 8 not kept v >= 8"))


class Names(unittest.TestCase):
    def test_the_example_of_the_document(self):
        model = ((("x", (0, 1, 2)), ("y", (0, 1, 2))), (("d", ("unlike", ("x", "y"))),), ())
        told = telling_rows(model, "d")
        self.assertEqual(len(told), 3)
        self.assertEqual(told[1], ((((("is", "x", 1), False), 1), ((("is", "y", 1), False), 1)), 1))

    def test_any_value_may_be_asked(self):
        model = model_of_all_kinds()
        for value in ODD_VALUES + tuple((word, value) for value in ODD_VALUES for word in ("sign", "tells", "one")) + \
                tuple((word, value, 0) for value in ODD_VALUES for word in ("sign", "tells", "chain", "one", value)):
            if repr(value) != repr(("one", "a", 0)):
                with self.assertRaises(UnknownName) as caught:
                    given_row(model, value)
                self.assertEqual(repr(caught.exception.name), repr(value))

    def test_arguments_by_name(self):
        model = model_of_all_kinds()
        self.assertEqual(given_row(model=model, name=("one", "a", 0)), given_row(model, ("one", "a", 0)))
        self.assertEqual(sign_rows(model=model, s="s.table"), sign_rows(model, "s.table"))
        self.assertEqual(telling_rows(model=model, s="s.table"), telling_rows(model, "s.table"))
