"""[38], [39]: what papers use, and whether they rest in other models."""

import random
import unittest

from aswritten.answers import best, every, solve, unbeaten
from aswritten.judge import judge, rows_of
from aswritten.keeping import rests, uses
from aswritten.search import all_of
from aswritten.turns import found
from tests.chance import WORDS, model_by
from tests.notes import paper, row, total
from tests.test_keeping import edit_by
from aswritten.keeping import Keeper

UNKNOWNS = (("x", (0, 1, 2)), ("y", (0, 1, 2)), ("z", (0, 1, 2)), ("free", (4, 5)))
SAYINGS = (("a", ("least", (("x", 1), ("y", 1)), 3)), ("d", ("unlike", ("x", "y"))),
           ("t", ("table", ("y", "z"), ((0, 0), (1, 2), (2, 1)))), ("m", ("machine", ("z",), 0, ((0, 1, 1),), (0, 1))),
           ("e", ("ahead", ("x",), ("z",))), ("w", ("when", ("is", "z", 1), ("unlike", ("x", "y")))))
SOFT = (("k", ("claim", ("is", "x", 0)), 4), ("l", ("unlike", ("y", "z")), 3))
MODEL = (UNKNOWNS, SAYINGS, SOFT)
SWAP = (("x", "y", ((0, 0), (1, 1), (2, 2))), ("y", "x", ((0, 0), (1, 1), (2, 2))))
ANY = (("always", row("-> is free 4, is free 5")), ("given", ("one", "free", 0)))


def always(*steps, head=((), (), (), ())):
    """A paper that ends with the row that free has some value, behind other steps."""
    return paper(*steps, ANY[1], head=head)


class Uses(unittest.TestCase):
    def check(self, right, *steps, head=((), (), (), ()), model=MODEL):
        one = always(*steps, head=head)
        self.assertTrue(judge(model, ANY[0], one))
        names, sayings = right
        self.assertEqual(uses(model, ANY[0], one), (tuple(sorted(names + ["free"])), tuple(sorted(sayings))))

    def test_steps_that_the_last_one_does_not_lean_on(self):
        self.check(([], []))
        self.check((["x"], []), ("given", ("chain", "x", 1)))
        self.check((["y"], []), ("given", ("part", "y", 2, 1)))
        self.check((["z"], []), ("given", ("one", "z", 1)))
        self.check((["x", "y"], ["a"]), ("given", ("tells", "a", 0)))
        self.check((["y", "z"], ["t"]), ("given", ("sign", "t", 0)))
        self.check((["x", "y"], ["d"]), ("told", "d", row("is x 1, is y 1 ->")))
        # the row has signs of x alone, the saying has y, too
        self.check((["x", "y"], ["a"]), ("told", "a", row("is x 0 ->")))
        self.check((["x"], ["k"]), ("told", "k", row("kept k -> is x 0")))
        # a row of no signs
        self.check((["x", "y"], ["d"]), ("told", "d", total(">= 0")))

    def test_signs_in_rows(self):
        for sign, names, sayings in ((("from", "z", 1), ["z"], []), (("is", "y", 0), ["y"], []),
                                     (("row", "t", 2), ["y", "z"], ["t"]), (("stand", "m", 1, 1), ["z"], ["m"]),
                                     (("even", "e", 0), ["x", "z"], ["e"]), (("if", "w"), ["x", "y", "z"], ["w"]),
                                     (("kept", "l"), ["y", "z"], ["l"])):
            for worth in (True, False):
                side = ("side", (sign, worth))
                self.check((names, sayings), side)
                named = ("name", 3, ((((sign, worth), 1),), 1))
                self.check((names, sayings), named)
                self.check((names, sayings), named, ("back", 0))
                self.check((names, sayings), side, ("weaken", 0, sign))
                self.check((names, sayings), ("led", ((((sign, worth), 1),), 0), ()))
        self.check((["x", "z"], []), ("side", (("is", "x", 1), True)), ("side", (("from", "z", 1), False)),
                   ("add", ((0, 1), (1, 2))))

    def test_heads(self):
        self.check((["x", "z"], []), head=(("z", "x"), (), (), ()))
        self.check((["y"], []), head=((), (), ((0, (("y", 1),), 0),), ()))
        self.check((["x", "y", "z"], ["k", "l"]), head=((), (), ((0, (), 1),), ()))
        self.check((["x", "y", "z"], ["k", "l"]), head=((), (), ((0, (("y", 1),), 0), (0, (), 1)), ()))
        swapped = (UNKNOWNS, SAYINGS[:2], ())
        self.check((["x", "y"], []), head=(("x", "y"), (SWAP,), (), ()), model=swapped)
        self.check(([], []), head=((), (), (), ((0, 2, 1, 4),)))

    def test_papers_of_the_package(self):
        chance = random.Random(38)
        for _ in range(60):
            words = [chance.choice(WORDS) for _ in range(chance.randint(2, 4))]
            model = model_by(chance, words, [chance.choice(WORDS)], (3, 5))
            if all_of(model) > 100:
                continue
            for asked, one in papers_of(model):
                names, sayings = uses(model, asked, one)
                signs = {side[0] for row_told, marks in rows_of(model, asked, one) for side, c in row_told[0]}
                self.assertLessEqual({sign[1] for sign in signs if sign[0] in ("from", "is")}, set(names))
                self.assertLessEqual({sign[1] for sign in signs if sign[0] in ("row", "stand", "even", "if", "kept")},
                                     set(sayings))
                self.assertEqual((list(names), list(sayings)), (sorted(set(names)), sorted(set(sayings))))


def papers_of(model):
    wishes = ((0, ((model[0][0][0], 1),), 1),)
    told = []
    answer = solve(model)
    if answer[0] == "none":
        told.append((("none",), answer[1]))
    else:
        word, worth, filling, one = best(model, wishes)
        told.append((("best", wishes, worth), one))
        word, pairs, one = unbeaten(model, wishes)
        told.append((("unbeaten", wishes, tuple(worth for worth, filling in pairs)), one))
    for (x, domain), pairs in zip(model[0], every(model)):
        for v, (word, one) in pairs:
            if word == "never":
                told.append((("row", row(f"is {x} {v} ->")), one))
    return told[:6]


class Rests(unittest.TestCase):
    def changed(self, **parts):
        names = ("unknowns", "sayings", "soft")
        return tuple(parts.get(name, old) for name, old in zip(names, MODEL))

    def check(self, right, asked, one, after, before=MODEL):
        self.assertTrue(judge(before, asked, one))
        self.assertIs(rests(before, after, asked, one), right)
        if right:
            self.assertTrue(judge(after, asked, one))

    asked = ("row", row("is x 0, is y 2 -> is z 1"))
    one = paper(("told", "t", row("is y 2 -> is z 1")), ("led", row("is x 0, is y 2 -> is z 1"), (0,)))

    def test_edits_that_do_not_touch_it(self):
        for after in (self.changed(unknowns=UNKNOWNS[:3] + (("free", (1, 9)),)), self.changed(soft=()),
                      self.changed(unknowns=UNKNOWNS[:3]), self.changed(sayings=SAYINGS[2:3]),
                      self.changed(unknowns=tuple(reversed(UNKNOWNS))), self.changed(sayings=tuple(reversed(SAYINGS))),
                      self.changed(unknowns=UNKNOWNS + (("new", (0,)),), sayings=SAYINGS + (("n", ("unlike", ("new",))),)),
                      self.changed(sayings=(("a", ("unlike", ("x",))),) + SAYINGS[1:]),
                      self.changed(soft=SOFT + (("more", ("unlike", ("x", "y")), 5),)), MODEL):
            self.check(True, self.asked, self.one, after)

    def test_edits_that_touch_it(self):
        for k in range(3):
            wider = UNKNOWNS[:k] + ((UNKNOWNS[k][0], (0, 1, 2, 3)),) + UNKNOWNS[k + 1:]
            self.check(False, self.asked, self.one, self.changed(unknowns=wider))
        for saying in (("table", ("y", "z"), ((0, 0), (1, 2))), ("table", ("z", "y"), ((0, 0), (1, 2), (2, 1))),
                       ("unlike", ("y", "z"))):
            self.check(False, self.asked, self.one, self.changed(sayings=SAYINGS[:2] + (("t", saying),) + SAYINGS[3:]))
        self.check(False, self.asked, self.one, self.changed(sayings=SAYINGS[:2] + SAYINGS[3:]))
        soft = self.changed(sayings=SAYINGS[:2] + SAYINGS[3:], soft=SOFT + (SAYINGS[2] + (1,),))
        self.check(False, self.asked, self.one, soft)
        # the name is there, but it is an unknown's
        self.check(False, self.asked, self.one, (UNKNOWNS + (("t", (0, 1)),), SAYINGS[:2], ()))

    def test_soft_sayings(self):
        asked = ("row", row("kept k, is x 1 ->"))
        one = paper(("told", "k", row("kept k, is x 1 ->")))
        self.check(True, asked, one, self.changed(soft=SOFT[:1]))
        self.check(True, asked, one, self.changed(soft=SOFT[::-1]))
        self.check(False, asked, one, self.changed(soft=(SOFT[0][:2] + (5,),)))
        self.check(False, asked, one, self.changed(soft=SOFT[1:]))
        self.check(False, asked, one, self.changed(soft=(("k", ("claim", ("is", "x", 2)), 4),)))
        firm = self.changed(sayings=SAYINGS + (SOFT[0][:2],), soft=SOFT[1:])
        self.check(False, asked, one, firm)

    def test_prices(self):
        small = (UNKNOWNS[:2], SAYINGS[:2], SOFT[:1])
        wishes = ((0, (), 1),)
        word, worth, filling, one = best(small, wishes)
        asked = ("best", wishes, worth)
        self.check(True, asked, one, small, small)
        self.check(True, asked, one, (small[0], small[1], small[2]), small)
        more = (small[0], small[1], SOFT[:1] + (("n", ("unlike", ("x",)), 1),))
        self.check(False, asked, one, more, small)
        self.check(False, asked, one, (small[0], small[1], ()), small)
        self.check(False, asked, one, (small[0], small[1], (SOFT[0][:2] + (3,),)), small)
        self.check(False, asked, one, (small[0], small[1], (("o",) + SOFT[0][1:],)), small)
        # without prices, a soft saying more or less is nothing to it
        wishes = ((0, (("x", 1),), 0),)
        word, worth, filling, one = best(small, wishes)
        self.check(True, ("best", wishes, worth), one, more, small)
        self.check(True, ("best", wishes, worth), one, (small[0], small[1], ()), small)
        # also where the head alone has such a wish
        one = always(head=((), (), ((0, (), 1),), ()))
        self.check(False, ANY[0], one, self.changed(soft=SOFT + (("n", ("unlike", ("x",)), 1),)))
        self.check(True, ANY[0], one, self.changed(sayings=()))
        self.check(False, ANY[0], one, self.changed(soft=SOFT[:1]))

    def test_fillings(self):
        small = (UNKNOWNS[:2], SAYINGS[:2], ())
        wishes = ((0, (("x", 1),), 0),)
        word, worth, filling, one = best(small, wishes)
        asked = ("best", wishes, worth)
        self.assertEqual(filling, (1, 2))
        self.check(True, asked, one, (small[0], small[1] + (("n", ("unlike", ("x",))),), ()), small)
        self.check(True, asked, one, (small[0], small[1] + (("n", ("claim", ("is", "x", 1))),), ()), small)
        # unknowns more or in another order, or a filling that does not keep
        self.check(False, asked, one, (UNKNOWNS[:3], small[1], ()), small)
        self.check(False, asked, one, (UNKNOWNS[1::-1], small[1], ()), small)
        self.check(False, asked, one, (small[0], small[1] + (("n", ("claim", ("is", "x", 2))),), ()), small)
        one = always(head=((), (), (), ((0, 0, 0, 4),)))
        self.check(False, ANY[0], one, MODEL)
        self.check(True, ANY[0], one, (UNKNOWNS, (), ()))

    def test_exchanges(self):
        small = (UNKNOWNS[:2], SAYINGS[:2], ())
        one = paper(("given", ("one", "x", 0)), head=(("x", "y"), (SWAP,), (), ()))
        asked = ("always", row("-> is x 0, is x 1, is x 2"))
        self.check(True, asked, one, small, small)
        self.check(True, asked, one, (small[0], (), ()), small)
        self.check(True, asked, one, (small[0], (), (("s", ("claim", ("is", "x", 1)), 1),)), small)
        self.check(False, asked, one, (small[0], (("s", ("claim", ("is", "x", 1))),), ()), small)
        self.check(False, asked, one, (((UNKNOWNS[0]), ("y", (0, 1))), (), ()), small)
        wishes = ((0, (("x", 1), ("y", 1)), 0),)
        soft = (("k", ("unlike", ("x", "y")), 4),)
        for wish, after, right in (
                (wishes, (small[0], small[1], soft), True), (((0, (), 1),), (small[0], small[1], soft), True),
                (((0, (), 1),), (small[0], small[1], (("k", ("claim", ("is", "x", 1)), 4),)), False)):
            before = (small[0], small[1], soft)
            word, worth, filling, one = best(before, wish)
            one = ((("x", "y"), (SWAP,)) + one[0][2:], one[1])
            self.check(right, ("best", wish, worth), one, after, before)
            word, pairs, one = unbeaten(before, wish)
            one = ((("x", "y"), (SWAP,)) + one[0][2:], one[1])
            self.check(right, ("unbeaten", wish, tuple(worth for worth, filling in pairs)), one, after, before)

    def test_exchanges_that_keep_no_wish(self):
        # the paper is taken, as it has no mark T, but it rests only where wishes are not asked for
        small = (UNKNOWNS[:2], SAYINGS[:2], ())
        wishes = ((0, (("x", 1),), 0), (0, (("x", 1), ("y", 1)), 0))
        word, worth, filling, one = best(small, wishes)
        one = ((("x", "y"), (SWAP,)) + one[0][2:], one[1])
        self.check(False, ("best", wishes, worth), one, small, small)
        word, pairs, one = unbeaten(small, wishes)
        one = ((("x", "y"), (SWAP,)) + one[0][2:], one[1])
        self.check(False, ("unbeaten", wishes, tuple(worth for worth, filling in pairs)), one, small, small)
        one = paper(("given", ("one", "x", 0)), head=(("x", "y"), (SWAP,), wishes, ()))
        self.check(True, ("always", row("-> is x 0, is x 1, is x 2")), one, small, small)

    def test_exchanges_that_keep_a_wish_no_more(self):
        # the soft saying of the wish is exchanged with one that after has, too
        unknowns = UNKNOWNS[:2]
        soft = (("k", ("claim", ("is", "x", 1)), 4), ("l", ("claim", ("is", "y", 1)), 4))
        before = (unknowns, (), soft)
        self.assertIn(SWAP, found(before))
        wishes = ((0, (), 1),)
        word, worth, filling, one = best(before, wishes)
        one = ((("x", "y"), (SWAP,)) + one[0][2:], one[1])
        self.check(True, ("best", wishes, worth), one, before, before)
        self.check(False, ("best", wishes, worth), one, (unknowns, (), soft[:1]), before)

    def test_true_only_where_it_is_taken(self):
        chance = random.Random(39)
        ends = [0, 0]
        for _ in range(60):
            words = [chance.choice(WORDS) for _ in range(chance.randint(2, 4))]
            model = model_by(chance, words, [chance.choice(WORDS)], (3, 5))
            if all_of(model) > 60:
                continue
            papers = papers_of(model)
            keeper = Keeper(model, ((0, (), 0),))
            for _ in range(4):
                edit_by(chance, keeper)
                for asked, one in papers:
                    right = rests(model, keeper.model, asked, one)
                    ends[right] += 1
                    if right:
                        self.assertTrue(judge(keeper.model, asked, one))
        self.assertGreater(min(ends), 30)

    def test_a_paper_without_a_head_rests_where_there_is_more(self):
        chance = random.Random(40)
        for _ in range(30):
            model = model_by(chance, [chance.choice(WORDS) for _ in range(3)], (), (3, 5))
            wider = (model[0] + (("more", (0, 1)),), model[1] + (("n", ("unlike", ("more", model[0][0][0]))),),
                     (("soft", ("unlike", ("more",)), 1),))
            if all_of(model) <= 60:
                for asked, one in papers_of(model):
                    if asked[0] in ("none", "row"):
                        self.check(True, asked, one, wider, model)
