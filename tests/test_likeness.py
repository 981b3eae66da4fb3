"""[31] to [33]: views, models that say the same, and sayings that may be added or left out."""

import itertools
import random
import unittest

from aswritten.errors import BadModel, BadView, TooFar, UnknownName
from aswritten.givens import telling_rows
from aswritten.judge import judge, trimmed
from aswritten.likeness import added, alike, check_view, freed, judge_alike, seen, view_model
from aswritten.models import check_model, keeps, keeps_saying
from aswritten.renames import renamed_items, renamed_unknowns
from aswritten.search import all_of
from tests.chance import WORDS, model_by
from tests.notes import row
from tests.samples import ODD_VALUES, changed_at_each_place, nested
from tests.searching import WHOLE_2000, WHOLE_2001, fillings_of, free_model, no_model

NO_HEAD = ((), (), (), ())
# x tells the place of 1 among p, q and r
ONE = ((("x", (0, 1, 2)),), (("low", ("least", (("x", -1),), -1)),), (("t", ("unlike", ("x",)), 4),))
OTHER = ((("p", (0, 1)), ("q", (0, 1)), ("r", (0, 1))), (
    ("one", ("same", (("p", 1), ("q", 1), ("r", 1)), 1)), ("no", ("claim", ("is", "r", 0)))), ())
THERE = ((("x",), ((0, 1), (1, 0), (2, 0))), (("x",), ((0, 0), (1, 1), (2, 0))), (("x",), ((0, 0), (1, 0), (2, 1))))
BACK = ((("q", "r"), ((0, 0, 0), (0, 1, 2), (1, 0, 1), (1, 1, 2))),)


def same_names(model):
    return tuple(((x,), tuple((v, v) for v in domain)) for x, domain in model[0])


class Views(unittest.TestCase):
    def number(self, one, other, value):
        try:
            self.assertIsNone(check_view(one, other, value))
        except BadView as fault:
            return fault.number
        return None

    def test_right_ones(self):
        self.assertIsNone(self.number(ONE, OTHER, THERE))
        self.assertIsNone(self.number(OTHER, ONE, BACK))
        self.assertIsNone(self.number(ONE, ONE, same_names(ONE)))

    def test_wrong_in_one_thing(self):
        xs, rows = BACK[0]
        wrong = [(), None, (xs,), (xs, rows, ()), ((), ((0,),)), (("q", "q"), rows), (("q", "z"), rows), (("q", 1), rows),
                 (["q", "r"], rows), (xs, rows[1:]), (xs, rows[:-1]), (xs, rows + ((1, 2, 0),)), (xs, rows + rows[-1:]),
                 (xs, rows[:3] + ((1, 1, 3),)), (xs, rows[:3] + ((1, 1),)), (xs, rows[:3] + ((1, True, 2),)),
                 (xs, rows[:2] + ((0, 1, 3),)), (xs, tuple(reversed(rows))), (xs, rows[:1] + ((0, 0, 1),) + rows[1:]),
                 (xs, rows[:3] + ((1, 1, 2, 0),)), (xs, list(rows)), (("p", "q", "r", "p"), rows), (xs, ()), (xs, ((),)),
                 (xs, rows[:3] + ((True, 1, 2),)), (xs, ((0, False, 0),) + rows[1:]), ("qr", rows)]
        for item in wrong + list(ODD_VALUES):
            self.assertEqual(self.number(OTHER, ONE, (item,)), 0, item)
        for k in range(3):
            for item in ((), (("y",), THERE[k][1]), (("x",), THERE[k][1][1:]), (("x",), ((0, 1), (1, 0), (2, 7)))):
                self.assertEqual(self.number(ONE, OTHER, THERE[:k] + (item,) + THERE[k + 1:]), k)
                self.assertEqual(self.number(ONE, OTHER, THERE[:k] + (item,) * (3 - k)), k)

    def test_wrong_as_a_whole(self):
        for value in (THERE[:2], THERE + THERE[:1], list(THERE), None, (), "xyz", 3, nested(29)):
            self.assertEqual(self.number(ONE, OTHER, value), -1)

    def test_up_to_256_rows_and_3_names(self):
        for sizes, right in (((4, 8, 8), True), ((16 // 2, 8, 4), True), ((12, 12), True), ((7, 6, 6), True),
                             ((4, 8, 9), False), ((2, 2, 2, 2), False), ((12, 12, 2), False)):
            names = tuple(f"x{k}" for k in range(len(sizes)))
            one = (tuple((x, tuple(range(size))) for x, size in zip(names, sizes)), (), ())
            other = ((("y", (0, 1)),), (), ())
            rows = tuple((*values, sum(values) % 2) for values in itertools.product(*map(range, sizes)))
            self.assertEqual(self.number(one, other, ((names, rows),)), None if right else 0)

    def test_one_row(self):
        one, other = ((("x", (3,)),), (), ()), ((("y", (1, 2)),), (), ())
        self.assertIsNone(self.number(one, other, ((("x",), ((3, 2),)),)))
        self.assertEqual(self.number(one, other, ((("x",), ()),)), 0)

    def test_seen(self):
        self.assertEqual([seen(ONE, OTHER, THERE, (v,)) for v in range(3)], [(1, 0, 0), (0, 1, 0), (0, 0, 1)])
        self.assertEqual(seen(OTHER, ONE, BACK, (0, 1, 1)), (2,))
        self.assertEqual(seen(OTHER, ONE, BACK, (1, 0, 0)), (0,))


class ViewModel(unittest.TestCase):
    def test_word_for_word(self):
        self.assertEqual(view_model(ONE, OTHER, THERE), (
            (("a.x", (0, 1, 2)), ("b.p", (0, 1)), ("b.q", (0, 1)), ("b.r", (0, 1))),
            (("a.low", ("least", (("a.x", -1),), -1)), ("v.p", ("table", ("a.x", "b.p"), THERE[0][1])),
             ("v.q", ("table", ("a.x", "b.q"), THERE[1][1])), ("v.r", ("table", ("a.x", "b.r"), THERE[2][1]))),
            (("b.one", ("same", (("b.p", 1), ("b.q", 1), ("b.r", 1)), 1), 1), ("b.no", ("claim", ("is", "b.r", 0)), 1))))
        self.assertEqual(view_model(OTHER, ONE, BACK)[1:], (
            (("a.one", ("same", (("a.p", 1), ("a.q", 1), ("a.r", 1)), 1)), ("a.no", ("claim", ("is", "a.r", 0))),
             ("v.x", ("table", ("a.q", "a.r", "b.x"), BACK[0][1]))), (("b.low", ("least", (("b.x", -1),), -1), 1),)))

    def test_names_in_sayings_of_each_sort(self):
        unknowns = tuple((x, (0, 1)) for x in "abcde")
        claim = ("and", (("not", ("from", "a", 1)), ("or", (("is", "b", 0),))))
        told = ("and", (("not", ("from", "b.a", 1)), ("or", (("is", "b.b", 0),))))
        pairs = ((("least", (("a", 2), ("b", -1)), 1), ("least", (("b.a", 2), ("b.b", -1)), 1)),
                 (("counts", ("a", "c"), ((0, 0, 1),)), ("counts", ("b.a", "b.c"), ((0, 0, 1),))),
                 (("pick", "a", ("b", "c"), "d"), ("pick", "b.a", ("b.b", "b.c"), "b.d")),
                 (("top", ("a", "b"), "c"), ("top", ("b.a", "b.b"), "b.c")),
                 (("product", "a", "b", "c"), ("product", "b.a", "b.b", "b.c")),
                 (("ahead", ("a", "b"), ("c", "d")), ("ahead", ("b.a", "b.b"), ("b.c", "b.d"))),
                 (("machine", ("a",), 0, ((0, 1, 1),), (1,)), ("machine", ("b.a",), 0, ((0, 1, 1),), (1,))),
                 (("works", ("a", "b"), (1, 2), (3, 4), 5), ("works", ("b.a", "b.b"), (1, 2), (3, 4), 5)),
                 (("round", ("a", "b")), ("round", ("b.a", "b.b"))), (("bar", ("a",), ((0,),)), ("bar", ("b.a",), ((0,),))),
                 (("claim", claim), ("claim", told)), (("when", claim, ("unlike", ("c",))), ("when", told, ("unlike", ("b.c",)))))
        for saying, right in pairs:
            other = (unknowns, (("s", saying),), ())
            check_model(other)
            self.assertEqual(view_model(other, other, same_names(other))[2], (("b.s", right, 1),))


class Alike(unittest.TestCase):
    def check_alike(self, one, other, there, back):
        word, paper = alike(one, other, there, back)
        self.assertEqual(word, "alike")
        self.assertIs(judge_alike(one, other, there, back, paper), True)
        e = sum(len(domain) for model in (one, other) for x, domain in model[0])
        for (a, b, view, home), (tells, returns) in zip(((one, other, there, back), (other, one, back, there)), paper):
            joined = view_model(a, b, view)
            most = 1000 * (all_of(a) + 1) * (e + 1) * (e + 1)
            self.assertEqual((len(tells), len(returns)), (len(b[1]), len(a[0])))
            alone = (joined[0], tuple(item[:2] for item in joined[2]), ())
            for (s, saying), papers in zip(b[1], tells):
                told = telling_rows(alone, "b." + s)
                self.assertEqual(len(papers), len(told))
                for one_row, one_paper in zip(told, papers):
                    self.check_paper(joined, one_row, one_paper, most)
            for (x, domain), (ys, rows), papers in zip(a[0], home, returns):
                self.assertEqual(len(papers), len(rows))
                for values, one_paper in zip(rows, papers):
                    front = ", ".join(f"is b.{y} {v}" for y, v in zip(ys, values))
                    self.check_paper(joined, row(f"{front} -> is a.{x} {values[-1]}"), one_paper, most)
        return paper

    def check_paper(self, model, one_row, paper, most):
        self.assertTrue(judge(model, ("row", one_row), paper))
        self.assertEqual(paper[0], NO_HEAD)
        self.assertEqual(trimmed(model, ("row", one_row), paper), paper)
        self.assertLessEqual(len(paper[1]), most)

    def check(self, one, other, there, back):
        lost = self.lost(one, other, there, back)
        others = self.lost(other, one, back, there)
        if not lost and not others:
            self.check_alike(one, other, there, back)
            return 2
        word, side, filling = alike(one, other, there, back)
        self.assertEqual((word, side), ("not", 0 if lost else 1))
        self.assertIn(filling, lost or others)
        return side

    def lost(self, one, other, there, back):
        return [filling for filling in fillings_of(one) if not keeps(other, seen(one, other, there, filling))
                or seen(other, one, back, seen(one, other, there, filling)) != filling]

    def test_another_coding(self):
        paper = self.check_alike(ONE, OTHER, THERE, BACK)
        self.assertEqual([len(papers) for papers in paper[0][0]], [2, 1])
        self.assertEqual([len(papers) for papers in paper[0][1]], [4])

    def test_not_alike(self):
        free = (ONE[0], (), ())
        self.assertEqual(alike(free, OTHER, THERE, BACK), ("not", 0, (2,)))
        self.assertEqual(alike(OTHER, free, BACK, THERE), ("not", 1, (2,)))
        less = (OTHER[0], OTHER[1][1:], ())
        self.assertEqual(alike(ONE, less, THERE, BACK)[:2], ("not", 1))
        # it keeps the other model, but is not led back
        turned = ((("q", "r"), ((0, 0, 1), (0, 1, 2), (1, 0, 0), (1, 1, 2))),)
        self.assertEqual(alike(ONE, OTHER, THERE, turned), ("not", 0, (0,)))
        soft = (ONE[0], ONE[1], (("a", ("claim", ("is", "x", 9)), 1),))
        self.assertEqual(alike(soft, OTHER, THERE, BACK)[0], "alike")

    def test_by_chance(self):
        chance = random.Random(55)
        ends = [0, 0, 0]
        for _ in range(120):
            words = [chance.choice(WORDS) for _ in range(chance.randint(0, 3))]
            one = model_by(chance, words, (), (2, 4))
            names = [x for x, domain in one[0]]
            new = dict(zip(chance.sample(names, len(names)), "pqrstuv"))
            unknowns, sayings = list(renamed_unknowns(one[0], new)), list(renamed_items(one[1], new))
            chance.shuffle(unknowns)
            chance.shuffle(sayings)
            if sayings and chance.random() < 0.3:
                sayings.pop()
            other = (tuple(unknowns), tuple(sayings), ())
            if chance.random() < 0.2:
                one, other, names, new = other, one, list(new.values()), {y: x for x, y in new.items()}
            old = {y: x for x, y in new.items()}
            there = tuple(((old[y],), tuple((v, v) for v in domain)) for y, domain in other[0])
            back = tuple(((new[x],), tuple((v, v) for v in domain)) for x, domain in one[0])
            if max(all_of(one), all_of(other)) <= 60:
                ends[self.check(one, other, there, back)] += 1
        self.assertGreater(min(ends), 1)

    def test_no_fillings(self):
        one, other = no_model(2), no_model(3)
        there = tuple(((x,), tuple((v, min(v, 1)) for v in domain)) for x, domain in one[0])
        there = ((("x0",), ((0, 0), (1, 2))),) + there[1:]
        back = ((("x0",), ((0, 0), (1, 0), (2, 1))),) + there[1:]
        self.check_alike(one, other, there, back)

    def test_by_all(self):
        one = free_model(*WHOLE_2000)
        self.assertEqual(alike(one, one, same_names(one), same_names(one))[0], "alike")
        one = free_model(*WHOLE_2001)
        other = ((("y", (0,)),), (), ())
        there = ((("x00",), tuple((v, 0) for v in range(3))),)
        back = tuple((("y",), ((0, 0),)) for _ in one[0])
        for args in ((one, other, there, back), (other, one, back, there), (one, one, same_names(one), same_names(one))):
            with self.assertRaises(TooFar):
                alike(*args)

    def test_judge_takes_no_other_papers(self):
        paper = alike(ONE, OTHER, THERE, BACK)[1]
        (tells, returns), second = paper
        self.assertTrue(judge_alike(ONE, OTHER, THERE, BACK, paper))
        for wrong in ((second, paper[0]), ((tells, returns),), paper + (second,), ((returns, tells), second),
                      ((tells[:1], returns), second), ((tells + tells[:1], returns), second), ((tells, ()), second),
                      ((tells[::-1], returns), second), (((tells[0][:1], tells[1]), returns), second),
                      (((tells[0][::-1], tells[1]), returns), second), ((tells, (returns[0][1:],)), second),
                      ((tells, (returns[0][::-1],)), second), ((tells, (returns[0] * 2,)), second),
                      (((tells[0] + tells[1], tells[1]), returns), second), ((tells, ((NO_HEAD, ()),)), second),
                      ((tells, returns, ()), second), (paper[0], second + ((),))):
            self.assertIs(judge_alike(ONE, OTHER, THERE, BACK, wrong), False)
        self.assertFalse(judge_alike(OTHER, ONE, BACK, THERE, paper))
        self.assertFalse(judge_alike((ONE[0], (), ()), OTHER, THERE, BACK, paper))
        for value in ODD_VALUES:
            for one in (value, (value, value), ((value, value), second), ((tells, value), second), (((value,), ()), second)):
                self.assertIs(judge_alike(ONE, OTHER, THERE, BACK, one), False)
        for value in changed_at_each_place(paper, True):
            self.assertIn(judge_alike(ONE, OTHER, THERE, BACK, value), (True, False))


class AddedAndFreed(unittest.TestCase):
    model = ((("x", (0, 1, 2)), ("y", (0, 1, 2))), (("s", ("least", (("x", 1), ("y", 1)), 3)),), (("t", ("unlike", ("x",)), 2),))

    def test_what_follows_and_what_does_not(self):
        follows, breaks = ("least", (("x", 1),), 1), ("least", (("x", 1),), 2)
        wider = (self.model[0], self.model[1] + (("f", follows),), self.model[2])
        self.assertEqual(added(self.model, "f", follows), ("model", wider))
        self.assertEqual(added(self.model, "f", breaks), ("breaks", (1, 2)))
        self.assertEqual(freed(wider, "f"), ("model", self.model))
        self.assertEqual(freed(wider, "s"), ("breaks", (1, 0)))
        self.assertEqual(freed(self.model, "s"), ("breaks", (0, 0)))

    def test_by_chance(self):
        chance = random.Random(56)
        words_told = set()
        for _ in range(200):
            words = [chance.choice(WORDS) for _ in range(chance.randint(1, 4))]
            model = model_by(chance, words, (), (2, 4))
            s, saying = chance.choice(model[1])
            rest = (model[0], tuple(item for item in model[1] if item[0] != s), ())
            broken = [filling for filling in fillings_of(rest) if not keeps_saying(model, s, filling)]
            right = ("breaks", broken[0]) if broken else ("model", rest)
            self.assertEqual(freed(model, s), right)
            words_told.add(right[0])
            if not broken:
                self.assertEqual(added(rest, s, saying), ("model", (model[0], rest[1] + ((s, saying),), ())))
                self.assertEqual(alike(model, rest, same_names(model), same_names(model))[0], "alike")
            else:
                self.assertEqual(added(rest, s, saying), right)
        self.assertEqual(words_told, {"model", "breaks"})

    def test_errors_in_their_order(self):
        far = free_model(*WHOLE_2001)
        right = ("unlike", ("x00",))
        with self.assertRaises(TooFar):
            added(far, "s", right)
        for name, saying in [("s", value) for value in ODD_VALUES] + [(value, right) for value in ODD_VALUES]:
            if name in ("a", "said", "least", "when") and saying == right:
                continue
            with self.assertRaises(BadModel) as caught:
                added(far, name, saying)
            self.assertEqual((caught.exception.part, caught.exception.number), ("sayings", 0))
        for name, part, number in (("x00", "sayings", 0), ("join0", "soft", 0)):
            with self.assertRaises(BadModel) as caught:
                added(far, name, right)
            self.assertEqual((caught.exception.part, caught.exception.number), (part, number))
        many = (far[0], tuple((f"s{k}", right) for k in range(40)), ())
        with self.assertRaises(BadModel) as caught:
            added(many, "t", right)
        self.assertEqual((caught.exception.part, caught.exception.number), ("sayings", 40))
        for name in ("join0", "x00", "s40", "z"):
            with self.assertRaises(UnknownName) as caught:
                freed(many[:2] + far[2:], name)
            self.assertEqual(caught.exception.name, name)
        with self.assertRaises(TooFar):
            freed(many, "s39")

    def test_freed_goes_by_the_model_without_the_saying(self):
        far = free_model(*WHOLE_2001)
        pinned = (far[0], (("pin", ("claim", ("is", "x00", 1))),), far[2])
        self.assertLess(all_of(pinned), 2000)
        with self.assertRaises(TooFar):
            freed(pinned, "pin")
        self.assertEqual(added(pinned, "more", ("claim", ("from", "x00", 1)))[0], "model")
        near = free_model(*WHOLE_2000)
        self.assertEqual(added(near, "pin", ("claim", ("is", "x00", 1))), ("breaks", (0,) * 5))
