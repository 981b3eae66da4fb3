"""[40], [41]: Keeper."""

import math
import random
import unittest

from aswritten.errors import BadModel, BadWish, NothingLeft, TooFar, UnknownName
from aswritten.judge import judge, trimmed
from aswritten.keeping import Keeper, rests
from aswritten.models import check_model, keeps
from aswritten.rows import row_holds
from aswritten.search import all_of
from aswritten.signs import signs_of
from aswritten.wishes import check_wishes, worths
from tests.chance import WORDS, model_by, saying_by
from tests.notes import row, total
from tests.samples import ODD_VALUES
from tests.searching import NONE_400, NONE_402, WHOLE_2000, WHOLE_2001, beside, fillings_of, free_model, late_model
from tests.searching import no_model

UNKNOWNS = (("x", (0, 1, 2)), ("y", (0, 1, 2)))
MODEL = (UNKNOWNS, (("s", ("least", (("x", 1), ("y", 1)), 3)), ("t", ("unlike", ("x", "y")))),
         (("w", ("claim", ("is", "x", 0)), 4), ("v", ("claim", ("is", "y", 0)), 3)))
WISHES = ((0, (("x", 1),), 1),)
FREE = ("unlike", ("x",))


def state_of(keeper):
    return (keeper.model, keeper.wishes)


class Edits(unittest.TestCase):
    def setUp(self):
        self.keeper = Keeper(MODEL, WISHES)

    def check(self, model, wishes=WISHES):
        self.assertEqual(state_of(self.keeper), (model, wishes))

    def refused(self, error, call, *args):
        before = state_of(self.keeper)
        with self.assertRaises(error) as caught:
            call(*args)
        self.assertEqual(state_of(self.keeper), before)
        return caught.exception

    def test_wrong_models_and_wishes(self):
        for value in ODD_VALUES:
            with self.assertRaises(BadModel) as caught:
                Keeper(value, WISHES)
            if not (isinstance(value, tuple) and len(value) == 3):
                self.assertEqual((caught.exception.part, caught.exception.number), ("model", -1))
            with self.assertRaises(BadWish):
                Keeper(MODEL, value)
        with self.assertRaises(BadModel) as caught:
            Keeper((UNKNOWNS, MODEL[1] + (("x", FREE),), ()), ((0, (("z", 1),), 0),))
        self.assertEqual((caught.exception.part, caught.exception.number), ("sayings", 2))
        with self.assertRaises(BadWish):
            Keeper(MODEL, ((0, (("z", 1),), 0),))

    def test_each_edit(self):
        keeper = self.keeper
        self.assertIsNone(keeper.put_unknown("z", (4, 5)))
        unknowns = UNKNOWNS + (("z", (4, 5)),)
        self.check((unknowns,) + MODEL[1:])
        self.assertIsNone(keeper.put_saying("q", FREE))
        sayings = MODEL[1] + (("q", FREE),)
        self.check((unknowns, sayings, MODEL[2]))
        self.assertIsNone(keeper.put_soft("p", FREE, 100))
        soft = MODEL[2] + (("p", FREE, 100),)
        self.check((unknowns, sayings, soft))
        self.assertIsNone(keeper.change_domain("x", (2, 3)))
        unknowns = (("x", (2, 3)),) + unknowns[1:]
        self.check((unknowns, sayings, soft))
        self.assertIsNone(keeper.change_saying("s", ("unlike", ("y", "z"))))
        sayings = (("s", ("unlike", ("y", "z"))),) + sayings[1:]
        self.check((unknowns, sayings, soft))
        self.assertIsNone(keeper.change_soft("v", FREE, 9))
        soft = (soft[0], ("v", FREE, 9), soft[2])
        self.check((unknowns, sayings, soft))
        self.assertIsNone(keeper.drop("t"))
        self.check((unknowns, sayings[:1] + sayings[2:], soft))
        self.assertIsNone(keeper.drop("w"))
        self.check((unknowns, sayings[:1] + sayings[2:], soft[1:]))
        self.assertIsNone(keeper.set_wishes(((7, (), 0),)))
        self.check((unknowns, sayings[:1] + sayings[2:], soft[1:]), ((7, (), 0),))
        keeper.put_unknown("last", (0,))
        keeper.drop("last")
        self.check((unknowns, sayings[:1] + sayings[2:], soft[1:]), ((7, (), 0),))

    def test_by_the_names_of_the_interface(self):
        keeper = Keeper(model=MODEL, wishes=WISHES)
        keeper.put_unknown(name="z", domain=(1,))
        keeper.put_saying(name="q", saying=FREE)
        keeper.put_soft(name="p", saying=FREE, price=2)
        keeper.change_domain(name="z", domain=(2,))
        keeper.change_saying(name="q", saying=("unlike", ("z",)))
        keeper.change_soft(name="p", saying=FREE, price=3)
        keeper.drop(name="p")
        keeper.set_wishes(wishes=((0, (), 0),))
        self.assertEqual(keeper.model, (UNKNOWNS + (("z", (2,)),), MODEL[1] + (("q", ("unlike", ("z",))),), MODEL[2]))
        self.assertEqual(keeper.holds(row=row("-> is z 2"))[0], "all")

    def test_unknown_names(self):
        keeper = self.keeper
        for name in list(ODD_VALUES) + ["z", "S"]:
            for call, args in ((keeper.change_domain, ((0,),)), (keeper.change_saying, (FREE,)),
                               (keeper.change_soft, (FREE, 1)), (keeper.drop, ())):
                self.assertEqual(self.refused(UnknownName, call, name, *args).name, name)
        for call, names, args in ((keeper.change_domain, "stwv", ((0,),)), (keeper.change_saying, "xywv", (FREE,)),
                                  (keeper.change_soft, "xyst", (FREE, 1))):
            for name in names:
                self.assertEqual(self.refused(UnknownName, call, name, *args).name, name)
        # before anything is said of the model that would come
        self.assertEqual(self.refused(UnknownName, keeper.change_saying, "z", None).name, "z")

    def test_models_that_would_come(self):
        keeper = self.keeper

        def wrong(part, number, call, *args):
            fault = self.refused(BadModel, call, *args)
            self.assertEqual((fault.part, fault.number), (part, number), args)

        for value in ODD_VALUES:
            if value not in ((0, 1), (0, False)) or value == (0, False):
                if not (isinstance(value, tuple) and value and all(type(v) is int for v in value)
                        and list(value) == sorted(set(value)) and len(value) < 13):
                    wrong("unknowns", 2, keeper.put_unknown, "z", value)
                    wrong("unknowns", 1, keeper.change_domain, "y", value)
            wrong("sayings", 2, keeper.put_saying, "q", value)
            wrong("sayings", 1, keeper.change_saying, "t", value)
            wrong("soft", 2, keeper.put_soft, "q", value, 1)
            wrong("soft", 0, keeper.change_soft, "w", value, 1)
            if type(value) is not int or not 1 <= value <= 100:
                wrong("soft", 2, keeper.put_soft, "q", FREE, value)
                wrong("soft", 1, keeper.change_soft, "v", FREE, value)
            if value not in ("a", "said", "least", "when"):
                wrong("unknowns", 2, keeper.put_unknown, value, (0,))
                wrong("sayings", 2, keeper.put_saying, value, FREE)
                wrong("soft", 2, keeper.put_soft, value, FREE, 1)
        wrong("unknowns", 2, keeper.put_unknown, "x", (0,))
        wrong("sayings", 0, keeper.put_unknown, "s", (0,))
        wrong("soft", 1, keeper.put_unknown, "v", (0,))
        wrong("soft", 0, keeper.put_saying, "w", FREE)
        wrong("sayings", 2, keeper.put_saying, "y", FREE)
        wrong("soft", 2, keeper.put_soft, "t", FREE, 1)
        wrong("sayings", 0, keeper.drop, "y")
        keeper.drop("s")
        keeper.drop("t")
        wrong("soft", 1, keeper.drop, "y")
        keeper.drop("v")
        keeper.drop("y")
        keeper.drop("w")
        keeper.set_wishes(((0, (), 0),))
        wrong("unknowns", 0, keeper.drop, "x")

    def test_wishes_that_would_not_be_right(self):
        keeper = Keeper((UNKNOWNS, (), ()), ((0, (("x", 1),), 0),))
        self.keeper = keeper
        self.refused(BadWish, keeper.drop, "x")
        for value in ODD_VALUES:
            self.refused(BadWish, keeper.set_wishes, value)
        # the model is told first
        keeper.put_saying("s", ("unlike", ("x",)))
        self.assertEqual(self.refused(BadModel, keeper.drop, "x").part, "sayings")
        keeper.drop("y")

    def test_undo_and_redo(self):
        keeper = self.keeper
        self.refused(NothingLeft, keeper.undo)
        self.refused(NothingLeft, keeper.redo)
        states = [state_of(keeper)]
        for call, args in ((keeper.put_unknown, ("z", (1,))), (keeper.drop, ("t",)), (keeper.set_wishes, (((1, (), 1),),)),
                           (keeper.change_domain, ("z", (1,)))):
            call(*args)
            states.append(state_of(keeper))
        self.refused(NothingLeft, keeper.redo)
        for state in reversed(states[:-1]):
            self.assertIsNone(keeper.undo())
            self.assertEqual(state_of(keeper), state)
        self.refused(NothingLeft, keeper.undo)
        for state in states[1:]:
            self.assertIsNone(keeper.redo())
            self.assertEqual(state_of(keeper), state)
        self.refused(NothingLeft, keeper.redo)

    def test_what_can_be_redone_ends_with_an_edit(self):
        keeper = self.keeper
        keeper.drop("t")
        keeper.drop("w")
        keeper.undo()
        # a refused edit changes nothing of it
        self.refused(BadModel, keeper.put_saying, "q", None)
        self.refused(UnknownName, keeper.drop, "z")
        self.refused(BadWish, keeper.set_wishes, None)
        keeper.redo()
        keeper.undo()
        keeper.undo()
        keeper.redo()
        keeper.set_wishes(WISHES)
        self.refused(NothingLeft, keeper.redo)
        keeper.undo()
        keeper.undo()
        self.refused(NothingLeft, keeper.undo)
        self.assertEqual(state_of(keeper), (MODEL, WISHES))
        keeper.redo()
        keeper.redo()
        self.refused(NothingLeft, keeper.redo)


def tuples_in(model):
    return math.prod(len(domain) for x, domain in model[0])


def row_by(chance, model):
    signs = [sign for sign in signs_of(model)]
    parts = []
    for sign in chance.sample(signs, min(len(signs), chance.randint(0, 4))):
        worth = False if sign[0] == "kept" else chance.random() < 0.5
        parts.append(((sign, worth), chance.choice((1, 1, 2, 3))))
    return (tuple(sorted(parts)), chance.choice((0, 1, 1, 1, 2, 3)))


def edit_by(chance, keeper):
    """Do some edit, which may be refused."""
    names = [item[0] for items in keeper.model for item in items]
    name = chance.choice(names)
    fresh = f"n{chance.randint(0, 99)}"
    saying = saying_by(chance, chance.choice(WORDS), keeper.model[0]) if len(keeper.model[0]) > 4 else FREE
    kind = chance.randint(0, 9)
    try:
        if kind == 0:
            keeper.put_unknown(fresh, tuple(range(chance.randint(1, 3))))
        elif kind == 1:
            keeper.put_saying(fresh, saying)
        elif kind == 2:
            keeper.put_soft(fresh, saying, chance.randint(1, 9))
        elif kind == 3:
            keeper.change_domain(name, tuple(sorted(chance.sample(range(-1, 5), chance.randint(1, 4)))))
        elif kind == 4:
            keeper.change_saying(name, saying)
        elif kind == 5:
            keeper.change_soft(name, saying, chance.randint(1, 9))
        elif kind == 6:
            keeper.drop(name)
        elif kind == 7:
            x = chance.choice(keeper.model[0])[0]
            keeper.set_wishes(((chance.randint(-3, 3), ((x, chance.choice((-1, 2))),), chance.randint(0, 1)),))
        elif kind == 8:
            keeper.undo()
        else:
            keeper.redo()
    except (BadModel, BadWish, UnknownName, NothingLeft):
        pass


class Questions(unittest.TestCase):
    def ask(self, keeper, question, given, right):
        """The answer is right; if it has a paper, it is the first of those given before that rests, or a new one."""
        model, wishes = state_of(keeper)
        answer = getattr(keeper, question[0])(*question[1:])
        self.assertEqual(answer[:len(right)], right, (model, wishes, question))
        if answer[0] in ("filling", "breaks"):
            return 0
        if answer[0] == "none":
            asked = ("none",)
        elif answer[0] == "best":
            asked = ("best", wishes, answer[1])
        else:
            asked = ("row", question[1])
        paper = answer[-1]
        self.assertTrue(judge(model, asked, paper), (model, asked))
        kept = [other for one, before, other in given if one == asked and rests(before, model, asked, other)]
        if kept:
            self.assertEqual(paper, kept[0])
            return 1
        self.assertEqual(trimmed(model, asked, paper), paper)
        given.append((asked, model, paper))
        return 0

    def ask_all(self, keeper, given, row_asked):
        model, wishes = state_of(keeper)
        told = fillings_of(model)
        least = min((worths(model, wishes, one), one) for one in told) if told else None
        broken = [one for one in told if not row_holds(model, row_asked, one)]
        rested = self.ask(keeper, ("some",), given, ("filling", told[0]) if told else ("none",))
        rested += self.ask(keeper, ("best",), given, ("best",) + least if told else ("none",))
        rested += self.ask(keeper, ("holds", row_asked), given, ("breaks", broken[0]) if broken else ("all",))
        return rested

    def test_behind_edits_undo_and_redo(self):
        chance = random.Random(40)
        rested = 0
        for _ in range(25):
            words = [chance.choice(WORDS) for _ in range(chance.randint(1, 3))]
            model = model_by(chance, words, [chance.choice(WORDS)], (3, 5))
            keeper = Keeper(model, ((0, ((model[0][0][0], 1),), 1),))
            given, rows_asked = [], []
            for _ in range(14):
                edit_by(chance, keeper)
                if all_of(keeper.model) > 60 or tuples_in(keeper.model) > 300:
                    continue
                rows_asked = [one for one in rows_asked if {side[0] for side, c in one[0]} <= set(signs_of(keeper.model))]
                rows_asked.append(row_by(chance, keeper.model))
                rested += self.ask_all(keeper, given, chance.choice(rows_asked))
        self.assertGreater(rested, 50)

    def test_rows_over_several_parts(self):
        chance = random.Random(41)
        for _ in range(120):
            model = beside(model_by(chance, [chance.choice(WORDS)], (), (3, 4)), model_by(
                chance, [chance.choice(WORDS)], [chance.choice(WORDS)], (3, 3)))
            check_model(model)
            keeper = Keeper(model, ((0, (), 1),))
            for _ in range(4):
                if all_of(model) <= 300 and tuples_in(model) < 400:
                    self.ask_all(keeper, [], row_by(chance, model))

    def test_rows_that_hold_just_and_with_more_to_spare(self):
        model = (tuple((x, (0, 1, 2)) for x in "abc"), (("s", ("least", (("a", 1),), 1)), ("t", ("least", (("c", 1),), 2))), ())
        keeper = Keeper(model, ((0, (), 0),))
        parts = "1 from a 1 + 1 from a 2 + 2 from b 1 + 1 from c 1 + 3 from c 2"
        for least in range(6):
            word, paper = keeper.holds(total(f"{parts} >= {least}"))
            self.assertEqual(word, "all")
            self.assertTrue(judge(model, ("row", total(f"{parts} >= {least}")), paper))
        self.assertEqual(keeper.holds(total(f"{parts} >= 6")), ("breaks", (1, 0, 2)))
        self.assertEqual(keeper.holds(total(f"{parts} >= 8")), ("breaks", (1, 0, 2)))
        self.assertEqual(keeper.holds(total(">= 1")), ("breaks", (1, 0, 2)))
        self.assertEqual(keeper.holds(total(">= 0"))[0], "all")

    def test_breaks_at_the_least_filling(self):
        model = (tuple((x, (0, 1)) for x in "abcd"), (("s", ("unlike", ("a", "c"))), ("t", ("unlike", ("b", "d")))), ())
        keeper = Keeper(model, ((0, (), 0),))
        self.assertEqual(keeper.holds(row("-> is a 0")), ("breaks", (1, 0, 0, 1)))
        self.assertEqual(keeper.holds(row("is b 0 -> is a 1")), ("breaks", (0, 0, 1, 1)))
        self.assertEqual(keeper.holds(row("is a 0 -> is b 0")), ("breaks", (0, 1, 1, 0)))
        self.assertEqual(keeper.holds(row("is a 0, is b 0, is c 1 -> is d 0")), ("breaks", (0, 0, 1, 1)))

    def test_a_paper_is_kept_and_a_dropped_saying_takes_it(self):
        keeper = Keeper(MODEL, WISHES)
        word, paper = keeper.holds(row("is x 0 ->"))
        keeper.put_unknown("z", (0, 1))
        keeper.put_saying("more", ("claim", ("from", "y", 2)))
        self.assertEqual(keeper.holds(row("is x 0 ->")), ("all", paper))
        keeper.change_saying("s", ("least", (("x", 1), ("y", 1)), 4))
        other = keeper.holds(row("is x 0 ->"))[1]
        self.assertFalse(rests(MODEL, keeper.model, ("row", row("is x 0 ->")), paper))
        self.assertTrue(judge(keeper.model, ("row", row("is x 0 ->")), other))
        keeper.undo()
        self.assertEqual(keeper.holds(row("is x 0 ->")), ("all", paper))
        keeper.drop("s")
        self.assertEqual(keeper.holds(row("is x 0 ->")), ("breaks", (0, 2, 0)))
        keeper.undo()
        self.assertEqual(keeper.holds(row("is x 0 ->")), ("all", paper))

    def test_too_far_whether_or_not_a_paper_is_kept(self):
        keeper = Keeper(no_model(*NONE_400), ((0, (), 0),))
        word, paper = keeper.some()
        self.assertEqual((word, len(keeper.best())), ("none", 2))
        self.assertEqual(keeper.best(), ("none", paper))
        far = late_model(7)
        for k, (x, domain) in enumerate(far[0]):
            keeper.put_unknown(f"o{k:02}", domain)
        new = {x: f"o{k:02}" for k, (x, domain) in enumerate(far[0])}
        from aswritten.renames import renamed_items
        for s, saying in renamed_items(far[1], new):
            keeper.put_saying("far" + s, saying)
        self.assertEqual(keeper.some(), ("none", paper))
        for s, saying, price in renamed_items(far[2], new):
            keeper.put_soft("far" + s, saying, price)
        with self.assertRaises(TooFar):
            keeper.some()
        keeper.undo()
        self.assertEqual(keeper.some(), ("none", paper))
        with self.assertRaises(TooFar):
            Keeper(no_model(*NONE_402), ((0, (), 0),)).some()

    def test_by_whole(self):
        keeper = Keeper(free_model(*WHOLE_2000), ((0, (("x00", -1),), 0),))
        self.assertEqual(keeper.best()[:3], ("best", (-7,), (7, 0, 0, 0, 0)))
        self.assertEqual(keeper.holds(row("is x00 7 ->")), ("breaks", (7, 0, 0, 0, 0)))
        keeper = Keeper(free_model(*WHOLE_2001), ((0, (("x00", -1),), 0),))
        self.assertEqual(keeper.some(), ("filling", (0, 0, 0, 0)))
        for call in (keeper.best, lambda: keeper.holds(row("is x00 2 ->"))):
            with self.assertRaises(TooFar):
                call()

    def test_very_many_fillings(self):
        names = [f"x{k:02}" for k in range(24)]
        model = (tuple((x, tuple(range(12))) for x in names), (), (("k", ("unlike", ("x00", "x23")), 5),))
        check_wishes(model, ((0, (("x00", -1), ("x23", -1)), 1),))
        keeper = Keeper(model, ((0, (("x00", -1), ("x23", -1)), 1),))
        self.assertEqual(keeper.some(), ("filling", (0,) * 24))
        word, least, filling, paper = keeper.best()
        self.assertEqual((least, filling), ((-21,), (10,) + (0,) * 22 + (11,)))
        self.assertTrue(judge(model, ("best", keeper.wishes, least), paper))
        self.assertTrue(keeps(model, filling))
        self.assertEqual(keeper.holds(row("is x05 3, is x07 4 -> is x23 0")),
                         ("breaks", (0,) * 5 + (3, 0, 4) + (0,) * 15 + (1,)))
