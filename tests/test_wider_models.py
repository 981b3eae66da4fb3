"""The models of [30] and [32], with a web and with more and longer names: rows, given rows and the judge."""

import itertools
import unittest

from aswritten.errors import BadRow, UnknownName
from aswritten.givens import given_row, sign_rows, telling_rows
from aswritten.judge import first_fault, judge, rows_of, trimmed
from aswritten.models import check_model
from aswritten.rows import check_row, check_sign, row_holds, sign_holds
from tests.notes import paper, row, rows, total

UNKNOWNS = (("x", (0, 1)), ("y", (0, 1, 2)))
# goes by (0, 1), (0, 2) and (1, 2)
WEB = ((((0, 0), (1, 1)),), (((1, 0), (2, 0)), ((2, 0),)), ((),))
MODEL = (UNKNOWNS, (("d", ("least", (("x", 1), ("y", -1)), 0)),), (("k", ("unlike", ("x", "y")), 2),
                                                                  ("web", ("web", ("x", "y"), WEB), 1)))
EMPTY = (UNKNOWNS, (), (("web", ("web", ("x", "y"), ((), (), ())), 1),))


class Webs(unittest.TestCase):
    def test_signs(self):
        right = [("kept", "web"), ("stand", "web", 0, 0), ("stand", "web", 1, 0), ("stand", "web", 1, 1),
                 ("stand", "web", 2, 0)]
        for k in range(-1, 4):
            for j in range(-1, 4):
                sign = ("stand", "web", k, j)
                self.assertIs(check_sign(MODEL, sign), sign in right, sign)
                self.assertIs(check_sign(EMPTY, sign), False)
        self.assertTrue(check_sign(MODEL, ("kept", "web")))
        self.assertTrue(check_sign(EMPTY, ("kept", "web")))
        self.assertFalse(check_sign(MODEL, ("if", "web")))
        self.assertFalse(check_sign(MODEL, ("stand", "web", 1, True)))

    def test_where_signs_hold(self):
        for filling in itertools.product((0, 1), (0, 1, 2)):
            path = [(k, j) for k in range(3) for j in range(2) if check_sign(MODEL, ("stand", "web", k, j))
                    and sign_holds(MODEL, ("stand", "web", k, j), filling)]
            through = filling in ((0, 1), (0, 2), (1, 2))
            self.assertEqual(path, [(0, 0), (1, filling[0])] + ([(2, 0)] if through else []))
            self.assertIs(sign_holds(MODEL, ("kept", "web"), filling), through)
            self.assertIs(sign_holds(EMPTY, ("kept", "web"), filling), False)
            self.assertIs(row_holds(MODEL, row("stand web 1 1 -> kept web"), filling), filling != (1, 0)
                          and filling != (1, 1))

    def test_sign_rows(self):
        told = rows("""
            -> stand web 0 0
            stand web 0 0, is x 0 -> stand web 1 0
            stand web 0 0, is x 1 -> stand web 1 1
            stand web 1 0, is x 0 -> stand web 0 0
            stand web 1 0, is x 1 ->
            stand web 1 1, is x 0 ->
            stand web 1 1, is x 1 -> stand web 0 0
            1 not stand web 1 0 + 1 not stand web 1 1 >= 1
            stand web 1 0, is y 1 -> stand web 2 0
            stand web 1 0, is y 2 -> stand web 2 0
            stand web 1 1, is y 2 -> stand web 2 0
            stand web 2 0, is y 0 ->
            stand web 2 0, is y 1 -> stand web 1 0
            stand web 2 0, is y 2 -> stand web 1 0, stand web 1 1
            1 not stand web 2 0 >= 0""")
        self.assertEqual(sign_rows(MODEL, "web"), told)
        self.assertEqual(sign_rows(EMPTY, "web"), ())
        for filling in itertools.product((0, 1), (0, 1, 2)):
            self.assertTrue(all(row_holds(MODEL, one, filling) for one in told))
        self.assertEqual(given_row(MODEL, ("sign", "web", 14)), told[14])
        for name in (("sign", "web", 15), ("sign", "web", -1), ("tells", "web", 0)):
            with self.assertRaises(UnknownName):
                given_row(MODEL, name)
        with self.assertRaises(UnknownName):
            given_row(EMPTY, ("sign", "web", 0))

    def test_no_telling_rows(self):
        self.assertEqual(telling_rows(MODEL, "web"), ())
        self.assertEqual(telling_rows(EMPTY, "web"), ())

    def test_check_row(self):
        self.assertIsNone(check_row(MODEL, row("stand web 2 0 -> kept web, is x 1")))
        with self.assertRaises(BadRow):
            check_row(MODEL, row("stand web 2 1 -> kept web, is x 1"))

    def test_no_told_step_for_the_web(self):
        for told in (row("kept web -> is y 1, is y 2"), ((), 0), row("-> is x 0, is x 1")):
            self.assertEqual(first_fault(MODEL, ("none",), paper(("told", "web", told))), 0)
        # a soft saying besides can be told
        self.assertEqual(first_fault(MODEL, ("none",), paper(("told", "k", row("kept k, is x 1, is y 1 ->")))), 1)

    def test_papers(self):
        # what goes through the web has y of 1 or 2, and what keeps the model has no greater y than x
        wanted = row("stand web 2 0 -> is y 1, is y 2")
        steps = (("given", ("sign", "web", 11)), ("given", ("one", "y", 0)), ("given", ("one", "x", 0)),
                 ("led", wanted, (0, 1)))
        self.assertTrue(judge(MODEL, ("always", wanted), paper(*steps)))
        self.assertEqual(rows_of(MODEL, ("always", wanted), paper(*steps))[3], (wanted, ""))
        self.assertEqual(trimmed(MODEL, ("always", wanted), paper(*steps)),
                         paper(steps[0], steps[1], ("led", wanted, (0, 1))))
        ends = row("-> stand web 2 0")
        numbers = tuple(range(6))
        steps = (("given", ("tells", "d", 0)), ("given", ("sign", "web", 0)), ("given", ("sign", "web", 1)),
                 ("given", ("sign", "web", 9)), ("given", ("one", "y", 0)), ("given", ("one", "x", 0)),
                 ("led", ends, numbers))
        self.assertEqual(first_fault(MODEL, ("row", ends), paper(*steps)), 6)
        fewer = (MODEL[0], (("d", ("least", (("y", 1),), 2)),), MODEL[2])
        steps = (("given", ("sign", "web", 0)), ("given", ("one", "x", 0)), ("given", ("tells", "d", 0)),
                 ("given", ("part", "y", 2, 0)), ("given", ("sign", "web", 9)), ("given", ("sign", "web", 10)),
                 ("given", ("sign", "web", 1)), ("given", ("sign", "web", 2)), ("led", ends, (2, 3, 4, 5, 0, 6, 7, 1)))
        self.assertTrue(judge(fewer, ("row", ends), paper(*steps)))
        self.assertEqual(first_fault(fewer, ("always", ends), paper(*steps)), 9)
        self.assertEqual(rows_of(fewer, ("row", ends), paper(*steps))[8], (ends, "S"))


LONG = "a." + "n" * 24
VIEW = (tuple((f"{name}.{k:022}", (0, 1)) for name in "ab" for k in range(24)) + ((LONG, (0, 1)),),
        (("v." + "m" * 24, ("table", (f"a.{0:022}", f"a.{1:022}", LONG, f"b.{0:022}"),
                            tuple(sorted(itertools.product((0, 1), repeat=4)))[:15])),
         ("big", ("table", (f"a.{0:022}",), tuple((k,) for k in range(-150, 106))))),
        tuple((f"b.{k:022}x", ("least", ((f"b.{k:022}", 1),), 1), 1) for k in range(24)))


class Views(unittest.TestCase):
    def test_more_and_longer_names(self):
        with self.assertRaises(ValueError):
            check_model(VIEW)
        self.assertTrue(check_sign(VIEW, ("is", LONG, 1)))
        self.assertTrue(check_sign(VIEW, ("row", "big", 255)))
        self.assertFalse(check_sign(VIEW, ("row", "big", 256)))
        self.assertTrue(check_sign(VIEW, ("row", "v." + "m" * 24, 14)))
        self.assertTrue(check_sign(VIEW, ("kept", f"b.{23:022}x")))
        filling = (1,) * 49
        self.assertFalse(sign_holds(VIEW, ("row", "v." + "m" * 24, 14), filling))
        self.assertTrue(sign_holds(VIEW, ("row", "big", 151), filling))
        self.assertEqual(len(sign_rows(VIEW, "big")), 254 + 4)
        self.assertEqual(len(telling_rows(VIEW, "v." + "m" * 24)), 1 + 8)
        self.assertEqual(telling_rows(VIEW, f"b.{5:022}x"),
                         (total(f"1 from b.{5:022} 1 + 1 not kept b.{5:022}x >= 1"),))

    def test_papers(self):
        name = "v." + "m" * 24
        wanted = row(f"is a.{0:022} 1, is a.{1:022} 1, is {LONG} 1 -> is b.{0:022} 0")
        told = paper(("told", name, wanted))
        self.assertTrue(judge(VIEW, ("row", wanted), told))
        self.assertEqual(first_fault(VIEW, ("always", wanted), told), 1)
        self.assertEqual(rows_of(VIEW, ("row", wanted), told), ((wanted, "S"),))
        self.assertEqual(trimmed(VIEW, ("row", wanted), told), told)
        wrong = row(f"is a.{0:022} 1, is a.{1:022} 1 -> is b.{0:022} 0")
        self.assertEqual(first_fault(VIEW, ("row", wrong), paper(("told", name, wrong))), 0)
