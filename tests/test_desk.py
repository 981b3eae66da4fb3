"""[50]: Desk."""

import unittest

from aswritten.answers import every
from aswritten.clashing import clashes
from aswritten.desk import Desk
from aswritten.errors import BadModel, BadText, BadWish, NothingLeft, TooFar, UnknownName, WrittenError
from aswritten.keeping import Keeper, renamed
from aswritten.texts import flatten, printed
from tests.searching import NONE_402, WHOLE_2001, free_model, no_model

TEXT = """set row: a b
unknown x(row): 0..2
unknown z: 0..1
p: x(a) + x(b) >= 3
soft 4 w: x(a) = 0
wish x(a) + 2 * z, prices
wish x(b) - 3"""


class Desks(unittest.TestCase):
    def setUp(self):
        self.desk = Desk(TEXT)

    def told(self, *pairs):
        for line, right in pairs:
            self.assertEqual(self.desk.answer(line), right, line)

    def state(self):
        """What the desk can tell of its model without changing it."""
        return [self.desk.answer(line) for line in ("paper", "count")] + [self.error("every no.such")]

    def error(self, line, desk=None):
        try:
            (desk or self.desk).answer(line)
        except WrittenError as fault:
            return type(fault), tuple(vars(fault).values())
        return None

    def refused(self, error, attributes, *lines):
        for line in lines:
            before = self.state()
            self.assertEqual(self.error(line), (error, attributes), line)
            self.assertEqual(self.state(), before)


class Answers(Desks):
    def test_questions(self):
        self.told(("some", "filling x.a=1 x.b=2 z=0"), ("best", "best 5,-1 x.a=1 x.b=2 z=0"), ("count", "6"),
                  ("every x.a", "1 2"), ("every z", "0 1"), ("  every   x.b  ", "1 2"))

    def test_edits(self):
        self.told(("say q x.a + x.b <= 3", "done"), ("count", "4"), ("put new.1 in -3, 4", "done"), ("count", "8"),
                  ("some", "filling x.a=1 x.b=2 z=0 new.1=-3"), ("soft 7 t.t new.1 = -3", "done"),
                  ("best", "best 5,-1 x.a=1 x.b=2 z=0 new.1=-3"), ("drop q", "done"), ("count", "12"), ("undo", "done"),
                  ("undo", "done"), ("best", "best 5,-1 x.a=1 x.b=2 z=0 new.1=-3"), ("redo", "done"), ("redo", "done"),
                  ("drop w", "done"), ("best", "best 1,-1 x.a=1 x.b=2 z=0 new.1=-3"), ("drop t.t", "done"), ("drop new.1", "done"),
                  ("count", "6"))

    def test_no_filling(self):
        self.told(("say bad x.a + x.b <= 2", "done"), ("some", "none"), ("best", "none"), ("count", "0"), ("every z", "none"),
                  ("clashes p bad", "bad,p"), ("say sad claim or (x.a >= 3, x.b >= 3)", "done"), ("clashes sad bad p", "bad,p sad"), ("clashes p", "()"), ("drop bad", "done"), ("clashes p", "()"), ("drop sad", "done"),
                  ("clashes p", "none"))

    def test_sayings_of_each_form(self):
        lines = ("a1 x.a >= z", "a2 2 * x.a - z <= 3 * 4 + x.b", "a3 x.a = 4 - x.b - z", "a4 unlike x.a, x.b", "a5 round z, x.a",
                 "a6 ahead x.a; x.b", "a7 top x.a, z is x.b", "a8 pick z of x.a is x.b", "a9 product x.a, z, x.b",
                 "b1 count x.a, x.b: 2 is 0..2, 1 is 0 .. 1", "b2 table x.a, x.b: (2, 1) (1, 2)", "b3 bar z: (1)",
                 "b4 machine z, x.a: 0 moves (0, 0, 1) (1, 2, 0) ends 0 1", "b5 works x.a, x.b lengths 1, 2 needs 3, 4 room 5",
                 "b6 claim not and (x.a = 1, or (z >= 1))", "b7 when z = 1: unlike x.a, x.b")
        whole = flatten(TEXT)[0]
        for line in lines:
            name, saying = line.split(" ", 1)
            desk = Desk(TEXT)
            self.assertEqual(desk.answer(f"say {line}"), "done")
            self.assertEqual(desk.answer(f"soft 3 t{name} {saying}"), "done")
            text = "unknown x: 0..2\nunknown y: 0..2\nunknown z: 0..1\n" + f"{name}: {saying}".replace("x.a", "x").replace("x.b", "y")
            keeper = Keeper(whole, ((0, (), 0),))
            told = renamed(flatten(text)[0], (("x", "x.a"), ("y", "x.b")))
            keeper.put_saying(name, told[1][0][1])
            self.assertEqual(desk.answer("some"), self.line_of(keeper.some()))

    def line_of(self, answer):
        if answer[0] == "none":
            return "none"
        return "filling " + " ".join(f"{x}={v}" for x, v in zip(("x.a", "x.b", "z"), answer[1]))

    def test_words_that_are_no_set_words_are_names(self):
        self.told(("put some in 1", "done"), ("put every in 1,2", "done"), ("every every", "1 2"), ("say say every >= 0", "done"), ("clashes say p", "none"), ("drop say", "done"), ("put a.very.long.name.of.24.x in 5", "done"),
                  ("every a.very.long.name.of.24.x", "5"), ("put x9.9 in 5", "done"))

    def test_the_wishes_of_the_text(self):
        desk = Desk("unknown z: 3..4")
        self.assertEqual(desk.answer("best"), "best 0 z=3")
        desk = Desk("unknown z: 3..4\nwish z * 2\nwish 0 - z")
        self.assertEqual(desk.answer("best"), "best 6,-3 z=3")


class PapersOfDesks(Desks):
    def test_behind_each_question(self):
        model, wishes, places = flatten(TEXT)
        self.told(("paper", "none"), ("some", "filling x.a=1 x.b=2 z=0"), ("count", "6"), ("paper", "none"))
        steps = len(Keeper(model, wishes).best()[3][1])
        self.desk.answer("best")
        self.told(("paper", str(steps)))
        # a value that is never taken has a paper, and other unknowns do not count
        never = [answer[1] for v, answer in every(model)[0] if answer[0] == "never"]
        self.assertEqual(len(never), 1)
        self.told(("every z", "0 1"), ("paper", str(steps)), ("every x.a", "1 2"), ("paper", str(len(never[-1][1]))))
        self.told(("some", "filling x.a=1 x.b=2 z=0"), ("paper", str(len(never[-1][1]))))

    def test_of_clashes_and_of_none(self):
        model, wishes, places = flatten(TEXT)
        sayings = (("bad", ("least", (("x.a", -1), ("x.b", -1)), -2)), ("worse", ("claim", ("from", "x.a", 3))),
                   ("q", ("same", (("x.a", 1),), 0)))
        keeper = Keeper(model, wishes)
        for s, saying in sayings:
            keeper.put_saying(s, saying)
        self.told(("say bad x.a + x.b <= 2", "done"), ("say worse claim x.a >= 3", "done"), ("say q x.a = 0", "done"), ("paper", "none"))
        lists = clashes(keeper.model, ("bad", "p", "q", "worse"))
        self.told(("clashes q p bad worse", " ".join(",".join(lot) for lot, paper in lists[0])))
        self.assertGreater(len(lists[0]), 2)
        self.told(("paper", str(len(lists[0][-1][1][1]))))
        self.told(("clashes q", "()"), ("paper", str(len(clashes(keeper.model, ("q",))[0][0][1][1]))))
        steps = str(len(keeper.some()[1][1]))
        self.told(("some", "none"), ("paper", steps), ("drop worse", "done"), ("drop q", "done"), ("drop bad", "done"),
                  ("clashes p", "none"), ("paper", steps))

    def test_refused_lines_leave_it(self):
        self.desk.answer("best")
        before = self.desk.answer("paper")
        for line in ("best 3", "every q", "clashes q", "say p x.a >= 0", "undo"):
            self.assertIsNotNone(self.error(line))
            self.told(("paper", before))

    def test_kept_papers(self):
        self.desk.answer("say bad x.a + x.b <= 2")
        self.desk.answer("some")
        steps = self.desk.answer("paper")
        self.told(("put more in 1,2", "done"), ("say n unlike more, z", "done"), ("some", "none"), ("paper", steps), ("best", "none"),
                  ("paper", steps))


class Refused(Desks):
    def test_texts(self):
        for text, line in (("", 1), ("unknown z: 0..1\n?", 2), ("set row: a\n", 2)):
            with self.assertRaises(BadText) as caught:
                Desk(text)
            self.assertEqual(caught.exception.line, line)

    def test_lines_without_a_form(self):
        self.refused(BadText, (1,), "", "   ", "# some", "some more", "some;", "Some", "best 1", "count x.a", "every", "every x.a z", "every 1",
                     "every in", "clashes", "clashes p p", "clashes p, p", "clashes p w p", "clashes unlike", "clashes a b c d e f g", "put",
                     "put q", "put q in", "put q in 1 2", "put q in {1}", "put q in 1..2", "put q in 1,", "put in in 1", "put q in 1000001",
                     "put q in -1000001", "say", "say q", "say q x.a", "say q x.a >= ", "say unlike x.a", "say q: x.a >= 1", "say q x.a > 1",
                     "say q 1 >= 1 >= 1", "say q x.a >= 1000001", "say q 2 * 3 * x.a >= 1", "say q x.a * z >= 1", "say q 1001 * 1000 >= x.a",
                     "say q 999999 * x.a + 2 * x.a >= 1", "say q x.a >= 1000000 + 1", "soft q x.a >= 1", "soft 3 x.a >= 1", "soft -3 q x.a >= 1",
                     "soft 1000001 q x.a >= 1", "soft", "drop", "drop p w", "drop 1", "drop of", "undo 1", "redo p", "paper 1", "do", "p", "1",
                     "answer some", "unknown q: 0..1", "set q: r", "wish x.a", "say q x.a >= 1\t", "say q x.a ? 1", "say q.  x.a >= 1",
                     "say .q x.a >= 1", "put q..q in 1", "put q.q. in 1", "put abcdefghijklmnopqrstuvwxy in 1", "put 1q in 1", "put q in 00000001")

    def test_places_variables_and_data(self):
        self.refused(BadText, (1,), "say q sum i in row: (x.a) >= 1", "say q unlike each i in row: x.a", "say q x(a) >= 1",
                     "say q for i in row: x.a >= 1", "say q works x.a lengths z needs 1 room 1", "say q claim x(a) = 1",
                     "say q works x.a lengths each i in row: 1 needs 1 room 1")

    def test_depths(self):
        self.refused(BadText, (1,), "say q claim " + "not " * 6 + "z = 1", "say q when z = 1: when z = 0: unlike z",
                     "say q claim " + "not " * 3000 + "z = 1", "say q claim " + "not " * 6 + "no.such = 1")
        self.told(("say q claim " + "not " * 5 + "z = 1", "done"))

    def test_names(self):
        for line, name in (("every q", "q"), ("every p", "p"), ("every some", "some"), ("say n q >= 1", "q"), ("say n x.a + y.1 - q >= 1", "y.1"),
                           ("say x.a p >= 1", "p"), ("soft 0 n when q = 1: unlike r", "q"), ("say n claim and (z = 1, t = 2)", "t"),
                           ("say n ahead z; u", "u"), ("say n pick z of x.a, v is w", "v"), ("clashes q", "q"), ("clashes p w", "w"),
                           ("clashes p x.a q", "x.a"), ("drop q", "q"), ("drop q.q", "q.q"), ("say n 0 * q >= 1", "q"),
                           ("say n q * 101 >= 1", "q"), ("say n table x.a, q: (1)", "q"), ("say n works q lengths 0 needs 1 room 1", "q")):
            self.refused(UnknownName, (name,), line)
        # the form is asked first, and then a number
        self.refused(BadText, (1,), "say n q >= 1 1", "clashes q q", "every q q", "say n q >= 1000001", "say n q >= 2000 * 2000")

    def test_models_that_would_come(self):
        self.refused(BadModel, ("sayings", 1), "say q 1 >= 0", "say q z - z >= 0", "say q 101 * z >= 0", "say q unlike z, z", "say p z >= 0",
                     "say x.a z >= 0", "say q table z: (1, 2)", "say q table z: (201)", "say q count z: 1 is 2..1", "say q machine z: 12 moves ends",
                     "say q works z lengths 0 needs 1 room 1", "say q ahead z; x.a, x.b", "say q claim or ()", "say q top z is z",
                     "say q claim z = 201", "say q machine z: 0 moves (0, 1, 1) (0, 1, 2) ends")
        self.refused(BadModel, ("soft", 1), "soft 0 q z >= 0", "soft 101 q z >= 0", "soft 3 w z >= 0", "soft 3 p z >= 0", "soft 3 q 1 >= 0")
        self.refused(BadModel, ("soft", 0), "say w z >= 0")
        self.refused(BadModel, ("unknowns", 3), "put q in 2, 1", "put q in 1, 1", "put q in 201", "put z in 1",
                     "put q in 1,2,3,4,5,6,7,8,9,10,11,12,13")
        self.refused(BadModel, ("sayings", 0), "drop x.a", "put p in 1")
        for line in ("say q machine z: 0 moves (0, 1, 1) (0, 1, 1) ends", "say q machine z: 0 moves ends 1 1", "say q count z: 1 is 0..1, 1 is 0..1"):
            self.assertIn(self.error(line), ((BadText, (1,)), (BadModel, ("sayings", 1))))

    def test_wishes_and_what_can_be_undone(self):
        self.refused(BadWish, (), "drop z")
        self.refused(NothingLeft, (), "undo", "redo")
        self.told(("put q in 1", "done"), ("undo", "done"))
        self.refused(BadModel, ("sayings", 1), "say q 1 >= 0")
        self.told(("redo", "done"))
        self.refused(NothingLeft, (), "redo")

    def test_too_far(self):
        desk = Desk(printed(no_model(*NONE_402), ((0, (), 0),)))
        self.assertEqual(self.error("some", desk), (TooFar, ()))
        self.assertEqual(self.error("clashes s0", desk), (TooFar, ()))
        self.assertEqual(desk.answer("count"), "0")
        desk = Desk(printed(free_model(*WHOLE_2001), ((0, (), 0),)))
        for line in ("best", "count", "every u0"):
            self.assertEqual(self.error(line, desk), (TooFar, ()))
        self.assertEqual(desk.answer("some"), "filling u0=0 u1=0 u2=0 u3=0")
        self.assertEqual(self.error("every u9", desk), (UnknownName, ("u9",)))
        self.assertEqual(desk.answer("paper"), "none")
