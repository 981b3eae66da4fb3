"""[28] to [30]: numbers of fillings, webs, and papers for numbers."""

import itertools
import random
import unittest

from aswritten.books import Book
from aswritten.drafts import Draft
from aswritten.errors import TooFar
from aswritten.givens import sign_rows, telling_rows
from aswritten.judge import judge, trimmed
from aswritten.netproofs import EndGoal, Net, Walk
from aswritten.nets import is_web
from aswritten.partial import Part
from aswritten.rows import check_sign, sign_holds
from aswritten.search import all_of, part_model_of, parts, whole
from aswritten.webs import count, count_paper, how_often, judge_count, least_web, nth, number_of, ways, web_model
from tests.chance import WORDS, model_by
from tests.notes import rows
from tests.samples import ODD_VALUES, changed_at_each_place, nested
from tests.searching import WHOLE_2000, WHOLE_2001, beside, fillings_of, free_model, no_model

DEAD = ((("z", (0, 1)),), (("never", ("claim", ("or", (("is", "z", 3),)))),), ())
NO_HEAD = ((), (), (), ())
# two unknowns that are to be unlike, and one by itself
SMALL = ((("x", (0, 1, 2)), ("y", (0, 1)), ("z", (4, 7))), (("d", ("unlike", ("x", "y"))),), ())


def models_by_chance(seed, many, most=5):
    chance = random.Random(seed)
    for number in range(many):
        words = [chance.choice(WORDS) for _ in range(chance.randint(0, 3))]
        model = model_by(chance, words, [chance.choice(WORDS)][:chance.randint(0, 1)], (2, most))
        if all_of(model) <= 200:
            yield model


class Counts(unittest.TestCase):
    def test_by_chance(self):
        for model in models_by_chance(41, 120):
            told = fillings_of(model)
            self.assertEqual(count(model), len(told))
            right = tuple(tuple(sum(filling[k] == v for filling in told) for v in domain)
                          for k, (x, domain) in enumerate(model[0]))
            self.assertEqual(how_often(model), right)
            for number, filling in enumerate(told):
                if number % 7 == 0 or number == len(told) - 1:
                    self.assertEqual(nth(model, number), filling)
                    self.assertEqual(number_of(model, filling), number)

    def test_very_many_fillings(self):
        names = [f"x{k}" for k in range(24)]
        model = (tuple((x, tuple(range(12))) for x in names), (("s", ("unlike", ("x0", "x23"))),), ())
        many = 12 ** 23 * 11
        self.assertEqual(count(model), many)
        self.assertEqual(how_often(model), ((many // 12,) * 12,) * 24)
        self.assertEqual(nth(model, 0), (0,) * 23 + (1,))
        self.assertEqual(nth(model, many - 1), (11,) * 23 + (10,))
        for number in (0, 1, 10, 11, many // 3, many // 2 + 7, many - 2, many - 1):
            self.assertEqual(number_of(model, nth(model, number)), number)
        filling = nth(model, many // 3)
        self.assertLess(nth(model, many // 3 - 1), filling)
        self.assertLess(filling, nth(model, many // 3 + 1))

    def test_parts_that_stand_among_one_another(self):
        unknowns = tuple((x, (0, 1, 2)) for x in "abcd")
        model = (unknowns, (("s", ("unlike", ("a", "c"))), ("t", ("least", (("b", 1), ("d", 1)), 3))), ())
        told = fillings_of(model)
        self.assertEqual([nth(model, k) for k in range(count(model))], told)
        self.assertEqual([number_of(model, filling) for filling in told], list(range(len(told))))

    def test_no_filling(self):
        model = beside(free_model(2, 3), DEAD)
        self.assertEqual(count(model), 0)
        self.assertEqual(how_often(model), ((0, 0), (0, 0, 0), (0, 0)))

    def test_by_whole(self):
        many = 8 * 3 * 2 * 4 * 9
        self.assertEqual(count(free_model(*WHOLE_2000)), many)
        self.assertEqual(nth(free_model(*WHOLE_2000), many - 1), (7, 2, 1, 3, 8))
        for model in (free_model(*WHOLE_2001), beside(DEAD, free_model(*WHOLE_2001))):
            for call in (count, how_often, lambda model: nth(model, 0), lambda model: number_of(model, (0,) * 4),
                         count_paper):
                with self.assertRaises(TooFar):
                    call(model)


def least_by_words(model, order):
    """The least web: nodes are sets of rows to the last level, in the order of their least rows from the first."""
    names = [x for x, domain in model[0]]
    told = [tuple(filling[names.index(x)] for x in order) for filling in fillings_of(model)]
    behind = [{beginning: frozenset(one[k:] for one in told if one[:k] == beginning)
               for beginning in {one[:k] for one in told}} for k in range(len(order) + 1)]
    numbers = []
    for lots in behind:
        firsts = {}
        for beginning in sorted(lots):
            firsts.setdefault(lots[beginning], len(firsts))
        numbers.append(firsts)
    web = []
    for k, firsts in enumerate(numbers):
        level = []
        for rest in firsts:
            pairs = set()
            for beginning in [one for one in behind[k] if behind[k][one] == rest]:
                for one in behind[k + 1] if k < len(order) else ():
                    if one[:k] == beginning:
                        pairs.add((one[k], numbers[k + 1][behind[k + 1][one]]))
            level.append(tuple(sorted(pairs)))
        web.append(tuple(level))
    return tuple(web)


class Webs(unittest.TestCase):
    def test_ways(self):
        self.assertEqual(ways(((((0, 0), (1, 1)),), (((1, 0), (2, 0)), ((2, 0),)), ((),))), 3)
        self.assertEqual(ways(((), (), ())), 0)
        # several ways through a node, and a node to which none leads
        self.assertEqual(ways(((((0, 0), (1, 0), (5, 1)),), (((0, 1), (1, 1)), ((0, 0),)), (((3, 0),), ((2, 0), (3, 0))),
                               ((),))), 9)
        wide = ((((0, 0), (1, 0)),),) * 24 + (((),),)
        self.assertEqual(ways(wide), 2 ** 24)

    def test_least_webs(self):
        self.assertEqual(least_web(SMALL, ("x", "y", "z")), (
            (((0, 0), (1, 1), (2, 2)),), (((1, 0),), ((0, 0),), ((0, 0), (1, 0))), (((4, 0), (7, 0)),), ((),)))
        chance = random.Random(43)
        for model in models_by_chance(43, 120):
            order = [x for x, domain in model[0]]
            for _ in range(2):
                web = least_web(model, tuple(order))
                self.assertEqual(web, least_by_words(model, order))
                self.assertEqual(ways(web), count(model))
                chance.shuffle(order)

    def test_no_filling_and_too_far(self):
        self.assertEqual(least_web(no_model(2), ("p", "q", "r", "x0")), ((),) * 5)
        model = beside(free_model(9, 9), free_model(12, 9))
        self.assertEqual(whole(model), 120)
        with self.assertRaises(TooFar):
            least_web(model, tuple(x for x, domain in model[0]))
        self.assertEqual(ways(least_web(free_model(*WHOLE_2000), ("x04", "x02", "x00", "x01", "x03"))), 1728)


class Forms(unittest.TestCase):
    domains = [(0, 1, 2), (0, 1)]
    web = ((((0, 0), (2, 1)),), (((0, 0), (1, 0)), ((1, 0),)), ((),))

    def test_right_ones(self):
        for web in (self.web, ((), (), ()), ((((1, 0),),), (((0, 0),),), ((),)), ((((0, 1),),),) + self.web[1:]):
            self.assertTrue(is_web(self.domains, web))

    def test_wrong_in_one_thing(self):
        first, second, last = self.web
        for web in ((first, second), (first, second, last, last), (), None, [first, second, last], (first * 2, second, last),
                    (first, second, ((), ())), (first, second, ()), (first, second, (((0, 0),),)), (first, (), last),
                    ((), second, last), (((),), second, last), (first, second + ((),), last), (first, second + (None,), last),
                    ((((0, 0), (2, 2)),), second, last), ((((0, 0), (2, -1)),), second, last), ((((0, 0), (3, 1)),), second, last),
                    ((((2, 1), (0, 0)),), second, last), ((((0, 0), (0, 1)),), second, last), ((((0, 0, 0), (2, 1)),), second, last),
                    ((((0,), (2, 1)),), second, last), ((((False, 0), (2, 1)),), second, last), ((((0, False), (2, 1)),), second, last),
                    (([(0, 0), (2, 1)],), second, last), (list(first), second, last), (first, second, [()]), (first, second, ([],)),
                    ((((0, 0), (0, 0)),), second, last), ((((0, 0), (1, 0), (2, 0), (2, 1)),), second, last)):
            self.assertIs(is_web(self.domains, web), False, web)


class WebModels(unittest.TestCase):
    web = ((((0, 0), (2, 1)),), (((0, 0), (1, 0)), ((1, 0),)), ((),))

    def test_names(self):
        part = ("x", "y")
        unknowns = SMALL[0][:2]
        self.assertEqual(web_model(SMALL, part, self.web), (unknowns, SMALL[1], (("web", ("web", part, self.web), 1),)))
        for names, right in ((("web",), "web0"), (("web", "web0"), "web1"), (("web0",), "web"), (("web", "web1"), "web0"),
                             (("web", "web0", "web1", "web2"), "web3")):
            soft = tuple((s, ("unlike", part), 5) for s in names)
            told = web_model((SMALL[0], SMALL[1], soft), part, self.web)
            self.assertEqual(told[2][-1], (right, ("web", part, self.web), 1))
            self.assertEqual(told[2][:-1], soft)
        # names of unknowns and sayings count, those of other parts do not
        model = ((("web", (0, 1)), ("y", (0,))), (("web0", ("unlike", ("web", "y"))),), ())
        self.assertEqual(web_model(model, ("web", "y"), ((), (), ()))[2][0][0], "web1")
        self.assertEqual(web_model((SMALL[0], (("web", ("unlike", ("z",))),), ()), ("x",), ((), ()))[2][0][0], "web")

    def test_signs_and_rows(self):
        model = web_model(SMALL, ("x", "y"), self.web)
        for filling in itertools.product((0, 1, 2), (0, 1)):
            through = filling in ((0, 0), (0, 1), (2, 1))
            self.assertIs(sign_holds(model, ("kept", "web"), filling), through)
            self.assertIs(sign_holds(model, ("stand", "web", 2, 0), filling), through)
            self.assertIs(sign_holds(model, ("stand", "web", 1, 1), filling), filling[0] == 2)
        self.assertFalse(check_sign(model, ("stand", "web", 1, 2)))
        self.assertEqual(telling_rows(model, "web"), ())
        self.assertEqual(sign_rows(model, "web")[:9], rows("""
            -> stand web 0 0
            stand web 0 0, is x 0 -> stand web 1 0
            stand web 0 0, is x 2 -> stand web 1 1
            stand web 1 0, is x 0 -> stand web 0 0
            stand web 1 0, is x 1 ->
            stand web 1 0, is x 2 ->
            stand web 1 1, is x 0 ->
            stand web 1 1, is x 1 ->
            stand web 1 1, is x 2 -> stand web 0 0"""))


class CountPapers(unittest.TestCase):
    def check(self, model):
        value = count_paper(model)
        self.assertEqual(len(value), len(parts(model)))
        e = sum(len(domain) for x, domain in model[0])
        most = 1000 * (whole(model) + 1) * (e + 1) * (e + 1)
        for part, (web, there, back) in zip(parts(model), value):
            inner = part_model_of(model, part)
            self.assertEqual(web, least_web(inner, part))
            if web[0] == ():
                self.assertEqual(back, ())
                self.check_paper(inner, ("none",), there, most)
                continue
            wider = web_model(model, part, web)
            end = ("stand", wider[2][-1][0], len(part), 0)
            self.check_paper(wider, ("row", ((((end, True), 1),), 1)), there, most)
            self.assertEqual(len(back), len(inner[1]))
            for (s, saying), papers in zip(inner[1], back):
                told = telling_rows(wider, s)
                self.assertEqual(len(papers), len(told))
                for (parts_told, least), paper in zip(told, papers):
                    further = (((end, False), least),) if least else ()
                    asked = ("always", (tuple(sorted(parts_told + further)), least))
                    self.check_paper(wider, asked, paper, most)
        many = len(fillings_of(model))
        self.assertIs(judge_count(model, many, value), True)
        for other in (many + 1, many - 1, -many - 1):
            self.assertIs(judge_count(model, other, value), False)
        return value

    def check_paper(self, model, asked, paper, most):
        self.assertTrue(judge(model, asked, paper))
        self.assertEqual(paper[0], NO_HEAD)
        self.assertEqual(trimmed(model, asked, paper), paper)
        self.assertLessEqual(len(paper[1]), most)

    def test_by_chance(self):
        for model in models_by_chance(44, 90):
            self.check(model)

    def test_sayings_that_are_not_small(self):
        chance = random.Random(45)
        for word in WORDS:
            for _ in range(3):
                unknowns = tuple((x, tuple(range(6))) for x in "abcde")
                inner = model_by(chance, (word,), (), (5, 5))[1][0][1]
                pins = tuple((f"p{x}", ("claim", ("or", tuple(("is", x, chance.randint(0, 5)) for _ in range(2)))))
                             for x in "abcde")
                if word not in ("bar", "product", "claim", "when"):
                    self.check((unknowns, (("s", inner),) + pins, ()))

    def test_parts_with_and_without_fillings(self):
        self.check(beside(SMALL, DEAD))
        self.check(beside(no_model(2), no_model(2, 2)))
        self.assertEqual(self.check(DEAD)[0][0], ((), ()))

    def test_names_of_webs(self):
        self.check((SMALL[0], SMALL[1], (("web", ("unlike", ("x",)), 3), ("web0", ("unlike", ("x", "y")), 3))))
        self.check(((("web", (0, 1)), ("web0", (0, 1))), (("s", ("unlike", ("web", "web0"))),), ()))

    def test_by_whole(self):
        value = count_paper(free_model(*WHOLE_2000))
        self.assertTrue(judge_count(free_model(*WHOLE_2000), 1728, value))

    def test_rows_with_the_least_0(self):
        # a sum that always holds, and one of which nothing is left
        model = (SMALL[0], (("s", ("least", (("x", 1),), -5)), ("c", ("counts", ("x", "y"), ((0, 0, 2), (9, 0, 1))))), ())
        self.check(model)


class JudgeCount(unittest.TestCase):
    def setUp(self):
        self.model = beside(SMALL, DEAD)
        self.value = count_paper(SMALL)
        self.part = self.value[0]

    def test_papers_less_or_exchanged(self):
        web, there, back = self.part
        self.assertTrue(judge_count(SMALL, 8, self.value))
        for part in ((web, there, ()), (web, there, (back[0][1:],)), (web, there, (back[0] + back[0][:1],)),
                     (web, there, back + back), (web, there, (tuple(reversed(back[0])),)), (web, back[0][0], back),
                     (web, there, ((there,) + back[0][1:],)), (web, (NO_HEAD, ()), back), (web, there), (there, web, back),
                     (web, there, back, ())):
            self.assertIs(judge_count(SMALL, 8, (part,) + self.value[1:]), False)
        self.assertIs(judge_count(SMALL, 8, self.value[:1]), False)
        self.assertIs(judge_count(SMALL, 8, self.value + self.value[1:]), False)
        self.assertIs(judge_count(SMALL, 8, tuple(reversed(self.value))), False)
        self.assertIs(judge_count(SMALL, 8, list(self.value)), False)

    def test_webs_with_a_way_less_or_more(self):
        web, there, back = self.part
        less = ((((0, 0), (1, 1)),), (((1, 0),), ((0, 0),)), ((),))
        more = (web[0], (((1, 0),), ((0, 0),), ((0, 0), (1, 0))), ((),))
        self.assertEqual(more, web)
        more = ((((0, 0), (1, 1), (2, 0)),), (((0, 0), (1, 0)), ((0, 0),)), ((),))
        for other, many in ((less, 4), (more, 10), (((), (), ()), 0)):
            for number in (8, many):
                self.assertIs(judge_count(SMALL, number, ((other, there, back),) + self.value[1:]), False)
        self.assertIs(judge_count(SMALL, 0, ((((), (), ()), there, ()),) + self.value[1:]), False)

    def test_other_right_webs(self):
        # the same ways by nodes that are not joined, and by one to which none leads
        part, s = ("x", "y"), "web"
        model = (SMALL[0][:2], SMALL[1], ())
        web = ((((0, 0), (1, 1), (2, 3)),), (((1, 0),), ((0, 0),), ((0, 0),), ((0, 0), (1, 0))), ((),))
        wider = web_model(model, part, web)
        draft = Draft(Book(wider))
        net = Net(draft, s, part, web)
        there = draft.paper(Part(model, part, 2000, False).proved(draft, EndGoal(net)))[1]
        back = tuple(draft.paper(Walk(net, k, told).told())[1] for k, told in enumerate(telling_rows(wider, "d")))
        self.assertTrue(judge_count(model, 4, ((web, there, (back,)),)))
        self.assertFalse(judge_count(model, 3, ((web, there, (back,)),)))
        self.assertFalse(judge_count(model, 4, ((least_web(model, part), there, (back,)),)))

    def test_any_values(self):
        for value in ODD_VALUES:
            self.assertIs(judge_count(SMALL, 8, value), False)
            self.assertIs(judge_count(DEAD, 0, (value,)), False)
        for value in changed_at_each_place(self.value, True):
            self.assertIn(judge_count(SMALL, 8, value), (True, False))
        self.assertIs(judge_count(SMALL, 8, nested(29, (0,) * 19000)), False)
        web = self.part[0]
        for other in ((((0, 0), (1, 1), (True, 2)),) + web[1:], web[:-1] + ((),), web[:-1], web + (((),),), (web[0] * 2,)
                      + web[1:], ((((1, 1), (0, 0), (2, 2)),),) + web[1:], ((((0, 0), (0, 1), (2, 2)),),) + web[1:],
                      ((((0, 0), (1, 1), (3, 2)),),) + web[1:], ((((0, 0), (1, 1), (2, 3)),),) + web[1:],
                      (((),),) + web[1:], web[:1] + (web[1] + ((),),) + web[2:]):
            self.assertIs(judge_count(SMALL, 8, ((other,) + self.part[1:],) + self.value[1:]), False)
