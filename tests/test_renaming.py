"""[41]: renamed, renamed_asked and renamed_paper."""

import random
import unittest

from aswritten.judge import first_fault, forged, judge
from aswritten.keeping import renamed, renamed_asked, renamed_paper
from aswritten.models import check_model
from aswritten.search import all_of
from tests.chance import WORDS, model_by
from tests.notes import paper, row, total
from tests.samples import model_of_all_kinds
from tests.test_likeness import same_names
from tests.test_uses import MODEL, SWAP, papers_of
from aswritten.likeness import view_model

# two names are exchanged, and the order of names turns
NAMES = (("x", "y"), ("y", "x"), ("z", "aa"), ("d", "zz"), ("t", "d"))
BACK = tuple((new, old) for old, new in NAMES)


def names_by(chance, model):
    """New names for some names of the model, some of them those of others."""
    old = [item[0] for items in model for item in items]
    chosen = chance.sample(old, chance.randint(0, len(old)))
    new = chance.sample(chosen + [f"n{k}.{k}" for k in range(len(old))], len(chosen))
    taken = set(old) - set(chosen)
    return tuple((a, b) for a, b in zip(chosen, new) if b not in taken)


class Models(unittest.TestCase):
    def test_all_names_at_once(self):
        self.assertEqual(renamed(MODEL, NAMES), (
            (("y", (0, 1, 2)), ("x", (0, 1, 2)), ("aa", (0, 1, 2)), ("free", (4, 5))),
            (("a", ("least", (("y", 1), ("x", 1)), 3)), ("zz", ("unlike", ("y", "x"))),
             ("d", ("table", ("x", "aa"), ((0, 0), (1, 2), (2, 1)))), ("m", ("machine", ("aa",), 0, ((0, 1, 1),), (0, 1))),
             ("e", ("ahead", ("y",), ("aa",))), ("w", ("when", ("is", "aa", 1), ("unlike", ("y", "x"))))),
            (("k", ("claim", ("is", "y", 0)), 4), ("l", ("unlike", ("x", "aa")), 3))))

    def test_each_sort_of_saying(self):
        model = model_of_all_kinds()
        new = tuple((item[0], "new." + item[0][:20]) for items in model for item in items)
        told = renamed(model, new)
        check_model(told)
        self.assertNotEqual(told, model)
        self.assertEqual(renamed(told, tuple((b, a) for a, b in new)), model)
        self.assertEqual(renamed(model, ()), model)
        # what view_model does by its own words
        view = same_names(model)
        joined = view_model(model, model, view)
        new = tuple((item[0], "a." + item[0]) for items in model for item in items)
        self.assertEqual(renamed(model, new)[1], joined[1][:len(model[1])])


class Asked(unittest.TestCase):
    def test_each_sort(self):
        self.assertEqual(renamed_asked(("none",), NAMES), ("none",))
        told = total("2 is x 1 + 1 from y 2 + 3 not row t 1 + 1 not kept k >= 2")
        right = total("2 is y 1 + 1 from x 2 + 3 not row d 1 + 1 not kept k >= 2")
        self.assertEqual(renamed_asked(("row", told), NAMES), ("row", right))
        self.assertEqual(renamed_asked(("always", row("is x 1 -> stand m 0 0, even e 1, if w")), NAMES),
                         ("always", row("is y 1 -> stand m 0 0, even e 1, if w")))
        # the order of the parts and of the terms turns
        self.assertEqual(renamed_asked(("row", row("is x 1 -> is y 1")), NAMES), ("row", row("is y 1 -> is x 1")))
        wishes = ((3, (("x", 1), ("y", -2), ("z", 4)), 1), (0, (), 0))
        turned = ((3, (("aa", 4), ("x", -2), ("y", 1)), 1), (0, (), 0))
        self.assertEqual(renamed_asked(("best", wishes, (3, 4)), NAMES), ("best", turned, (3, 4)))
        self.assertEqual(renamed_asked(("unbeaten", wishes, ((3, 4),)), NAMES), ("unbeaten", turned, ((3, 4),)))
        for asked in (("row", told), ("best", wishes, (3, 4)), ("unbeaten", wishes, ())):
            self.assertEqual(renamed_asked(renamed_asked(asked, NAMES), BACK), asked)


class Papers(unittest.TestCase):
    def test_heads_and_each_sort_of_step(self):
        wishes = ((3, (("x", 1), ("y", -2), ("z", 4)), 1),)
        mixed = (("x", "z", ((0, 1), (1, 0), (2, 2))), ("y", "y", ((0, 0), (1, 1), (2, 2))), ("z", "x", ((0, 1), (1, 0), (2, 2))))
        steps = (("given", ("chain", "x", 1)), ("given", ("part", "y", 0, 1)), ("given", ("one", "z", 0)),
                 ("given", ("sign", "t", 3)), ("given", ("tells", "d", 2)), ("told", "t", row("is y 1 -> is z 2")),
                 ("side", (("is", "x", 1), False)), ("side", (("name", 7), True)), ("add", ((0, 1), (70, 2))),
                 ("divide", 3, 2), ("trim", 99), ("weaken", 4, ("row", "t", 1)), ("weaken", 4, ("name", 1)),
                 ("led", row("is x 1, name 4 -> is y 1"), (1, 2, 88)), ("name", 10 ** 30, row("is x 0 -> is z 0")),
                 ("back", 5), ("better",), ("beside", 3, (("name", 2),)), ("turned", (0, 0)))
        told = ((("z", "x", "y"), (SWAP, mixed), wishes, ((0, 1, 2, 4),)), steps)
        right = ((("aa", "y", "x"), (
            (("x", "y", ((0, 0), (1, 1), (2, 2))), ("y", "x", ((0, 0), (1, 1), (2, 2)))),
            (("aa", "y", ((0, 1), (1, 0), (2, 2))), ("x", "x", ((0, 0), (1, 1), (2, 2))), ("y", "aa", ((0, 1), (1, 0), (2, 2))))),
            ((3, (("aa", 4), ("x", -2), ("y", 1)), 1),), ((0, 1, 2, 4),)),
            (("given", ("chain", "y", 1)), ("given", ("part", "x", 0, 1)), ("given", ("one", "aa", 0)),
             ("given", ("sign", "d", 3)), ("given", ("tells", "zz", 2)), ("told", "d", row("is x 1 -> is aa 2")),
             ("side", (("is", "y", 1), False)), ("side", (("name", 7), True)), ("add", ((0, 1), (70, 2))),
             ("divide", 3, 2), ("trim", 99), ("weaken", 4, ("row", "d", 1)), ("weaken", 4, ("name", 1)),
             ("led", row("is y 1, name 4 -> is x 1"), (1, 2, 88)), ("name", 10 ** 30, row("is y 0 -> is aa 0")),
             ("back", 5), ("better",), ("beside", 3, (("name", 2),)), ("turned", (0, 0))))
        self.assertEqual(renamed_paper(told, NAMES), right)
        self.assertEqual(renamed_paper(right, BACK), told)
        self.assertEqual(renamed_paper(told, ()), told)
        self.assertEqual(renamed_paper(paper(), NAMES), paper())

    def test_an_unknown_that_is_called_name(self):
        self.assertEqual(renamed_asked(("row", row("is name 0, name 3 -> is x 1")), (("name", "n"),)),
                         ("row", row("is n 0, name 3 -> is x 1")))
        told = paper(("given", ("one", "name", 0)), ("side", (("is", "name", 1), True)), ("side", (("name", 1), True)))
        right = paper(("given", ("one", "n", 0)), ("side", (("is", "n", 1), True)), ("side", (("name", 1), True)))
        self.assertEqual(renamed_paper(told, (("name", "n"),)), right)

    def check(self, model, asked, one, names):
        """The paper has the same fault before and after."""
        new = renamed(model, names)
        check_model(new)
        fault = first_fault(model, asked, one)
        self.assertEqual(first_fault(new, renamed_asked(asked, names), renamed_paper(one, names)), fault)
        back = tuple((b, a) for a, b in names)
        self.assertEqual(renamed(new, back), model)
        self.assertEqual(renamed_paper(renamed_paper(one, names), back), one)
        self.assertEqual(renamed_asked(renamed_asked(asked, names), back), asked)
        return fault

    def test_papers_of_the_package(self):
        chance = random.Random(43)
        for _ in range(60):
            words = [chance.choice(WORDS) for _ in range(chance.randint(2, 4))]
            model = model_by(chance, words, [chance.choice(WORDS)], (3, 5))
            if all_of(model) > 60:
                continue
            for asked, one in papers_of(model):
                self.assertIsNone(self.check(model, asked, one, names_by(chance, model)))

    def test_papers_that_are_not_taken(self):
        chance = random.Random(44)
        faults = set()
        for word, mark in (("none", "B"), ("row", "T"), ("always", "S"), ("best", "T"), ("unbeaten", "B"), ("unbeaten", "T")):
            model, asked, one, filling = forged(word, mark)
            for _ in range(6):
                faults.add(self.check(model, asked, one, names_by(chance, model)))
                shorter = (one[0], one[1][chance.randint(0, len(one[1]) - 1):])
                faults.add(self.check(model, asked, shorter, names_by(chance, model)))
        self.assertGreater(len(faults), 2)

    def test_other_names_are_other_papers(self):
        asked, one = ("row", row("is x 0 -> is y 2")), paper(("told", "a", row("is x 0 -> is y 2")))
        model = ((("x", (0, 1, 2)), ("y", (0, 1, 2))), (("a", ("least", (("x", 1), ("y", 1)), 2)),), ())
        self.assertTrue(judge(model, asked, one))
        names = (("x", "q"), ("a", "b"))
        self.assertFalse(judge(model, asked, renamed_paper(one, names)))
        self.assertFalse(judge(renamed(model, names), asked, one))
        self.assertTrue(judge(renamed(model, names), renamed_asked(asked, names), renamed_paper(one, names)))
