"""[24], [25], [6]: plain search, its numbers, parts, and all fillings."""

import random
import time
import unittest

from aswritten.answers import best, every, solve
from aswritten.clashing import clashes
from aswritten.errors import TooFar
from aswritten.keeping import Keeper
from aswritten.models import check_model, keeps
from aswritten.search import all_fillings, all_of, first, part_model_of, parts, plain, whole
from aswritten.webs import count
from tests.alarm import Alarm
from tests.chance import WORDS, model_by
from tests.samples import model_of_all_kinds
from tests.searching import NONE_400, NONE_402, WHOLE_2000, WHOLE_2001, beside, fillings_of, free_model, joining
from tests.searching import late_model, no_model, numbers_of_choices, parts_by_words, visits

DEAD = ((("z", (0, 1)),), (("never", ("claim", ("or", (("is", "z", 3),)))),), ())


def names_of(model):
    return tuple(x for x, domain in model[0])


def models_by_chance(seed, many):
    chance = random.Random(seed)
    for number in range(many):
        words = [chance.choice(WORDS) for _ in range(chance.randint(0, 3))]
        yield model_by(chance, words, [chance.choice(WORDS)][:chance.randint(0, 1)], (2, 5))


class Plain(unittest.TestCase):
    def test_the_very_choices_by_several_orders(self):
        chance = random.Random(24)
        for model in models_by_chance(1, 90):
            order = list(names_of(model))
            for _ in range(2):
                choices, fillings = visits(model, order)
                choices = tuple(choice for choice, found in choices if found == 0)
                if len(choices) <= 400:
                    right = (choices, fillings[0] if fillings else None)
                    self.assertEqual(plain(model, tuple(order)), right, (model, order))
                chance.shuffle(order)

    def test_choices_end_at_the_first_filling(self):
        model = ((("x", (0, 1, 2)), ("y", (0, 1))), (("s", ("least", (("x", 1), ("y", 1)), 1)),), ())
        self.assertEqual(plain(model, ("x", "y")), (((0, "x", 0),), (0, 1)))
        self.assertEqual(plain(model, ("y", "x")), (((0, "y", 0), (1, "x", 1)), (1, 0)))

    def test_striking_alone_settles_or_empties(self):
        settled = ((("x", (0, 1)), ("y", (0, 1))), (("s", ("least", (("x", 1), ("y", 1)), 2)),), ())
        self.assertEqual(plain(settled, ("y", "x")), ((), (1, 1)))
        self.assertEqual(plain(DEAD, ("z",)), ((), None))
        for model in (settled, DEAD):
            self.assertEqual((first(model), whole(model), all_of(model)), (0, 0, 0))
        self.assertEqual(all_fillings(settled), ((1, 1),))

    def test_soft_sayings_strike_nothing(self):
        model = ((("x", (0, 1)),), (), (("s", ("claim", ("is", "x", 1)), 9),))
        self.assertEqual(plain(model, ("x",)), (((0, "x", 0),), (0,)))

    def test_up_to_400_choices(self):
        for free, many in ((5, 399), (6, 400)):
            model = late_model(free)
            choices, filling = plain(model, names_of(model))
            self.assertEqual((len(choices), filling), (many, (1,) + (0,) * (6 + free)))
            self.assertEqual(first(model), many)
        for free in (7, 8, 12):
            model = late_model(free)
            with self.assertRaises(TooFar):
                plain(model, names_of(model))
            self.assertEqual(first(model), 401)
        choices, filling = plain(no_model(*NONE_400), names_of(no_model(*NONE_400)))
        self.assertEqual((len(choices), filling), (400, None))
        with self.assertRaises(TooFar):
            plain(no_model(*NONE_402), names_of(no_model(*NONE_402)))

    def test_the_order_decides(self):
        model = no_model(*NONE_402)
        order = tuple(reversed(names_of(model)))
        self.assertEqual(plain(model, order), (((0, "r", 0), (0, "r", 1)), None))


class Numbers(unittest.TestCase):
    def test_by_the_test_own_search(self):
        for model in models_by_chance(2, 90):
            self.assertEqual(parts(model), parts_by_words(model), model)
            counts = [numbers_of_choices(part_model_of(model, part), part) for part in parts(model)]
            self.assertEqual(first(model), min(401, max(a for a, b in counts)))
            self.assertEqual(whole(model), min(2001, max(b for a, b in counts)))
            self.assertEqual(all_of(model), min(2001, numbers_of_choices(model, names_of(model))[1]))

    def test_of_several_parts_the_greatest(self):
        both = beside(no_model(*NONE_400), free_model(3, 2))
        self.assertEqual((first(both), whole(both)), (400, 400))
        both = beside(free_model(3, 2), no_model(*NONE_402))
        self.assertEqual((first(both), whole(both)), (401, 402))
        both = beside(free_model(*WHOLE_2000), DEAD)
        self.assertEqual((first(both), whole(both), all_of(both)), (5, 2000, 0))
        both = beside(free_model(*WHOLE_2001), DEAD)
        self.assertEqual((first(both), whole(both), all_of(both)), (4, 2001, 0))
        # the model itself is searched to its end, not by parts
        both = beside(free_model(3, 2), free_model(5))
        self.assertEqual((whole(both), all_of(both)), (9, 3 + 6 + 30))
        both = beside(free_model(9, 9), free_model(12, 9))
        self.assertEqual((whole(both), all_of(both)), (120, 2001))

    def test_up_to_2000_choices(self):
        model = free_model(*WHOLE_2000)
        self.assertEqual((whole(model), all_of(model)), (2000, 2000))
        self.assertEqual(len(all_fillings(model)), 8 * 3 * 2 * 4 * 9)
        for sizes in (WHOLE_2001, (3, 6, 10, 11), (12, 12, 12, 12)):
            model = free_model(*sizes)
            self.assertEqual((whole(model), all_of(model)), (2001, 2001))
            with self.assertRaises(TooFar):
                all_fillings(model)

    def test_free_unknowns_end_in_a_short_time(self):
        names = [f"x{k}" for k in range(24)]
        begin = time.perf_counter()
        for soft in ((), joining(names)):
            model = (tuple((x, tuple(range(12))) for x in names), (), soft)
            self.assertEqual((first(model), whole(model), all_of(model)), (24, 2001, 2001) if soft else (1, 12, 2001))
            self.assertEqual(plain(model, tuple(names))[1], (0,) * 24)
            with self.assertRaises(TooFar):
                all_fillings(model)
        self.assertLess(time.perf_counter() - begin, 10)


class Parts(unittest.TestCase):
    def test_soft_sayings_join_and_chains_do(self):
        unknowns = tuple((x, (0, 1, 2)) for x in "abcdefg")
        one = ("least", (("g", 1), ("b", 1)), 0)
        two = ("unlike", ("b", "d"))
        three = ("when", ("is", "c", 0), ("unlike", ("f",)))
        model = (unknowns, (("s", one), ("t", three), ("u", ("claim", ("is", "e", 2)))), (("v", two, 4),))
        self.assertEqual(parts(model), (("a",), ("b", "d", "g"), ("c", "f"), ("e",)))
        self.assertEqual(part_model_of(model, ("b", "d", "g")),
                         ((unknowns[1], unknowns[3], unknowns[6]), (("s", one),), (("v", two, 4),)))
        self.assertEqual(part_model_of(model, ("c", "f")), ((unknowns[2], unknowns[5]), (("t", three),), ()))
        self.assertEqual(part_model_of(model, ("a",)), ((unknowns[0],), (), ()))

    def test_all_sayings_in_order(self):
        model = model_of_all_kinds()
        self.assertEqual(parts(model), parts_by_words(model))
        for part in parts(model):
            told = part_model_of(model, part)
            self.assertEqual(told[0], tuple(item for item in model[0] if item[0] in part))
            if len(parts(model)) == 1:
                self.assertEqual(told, model)

    def test_fillings_of_the_parts_make_up_those_of_the_model(self):
        for model in models_by_chance(3, 60):
            told = fillings_of(model)
            by_parts = {part: fillings_of(part_model_of(model, part)) for part in parts(model)}
            names = names_of(model)
            for part, lists in by_parts.items():
                projected = {tuple(filling[names.index(x)] for x in part) for filling in told}
                if told:
                    self.assertEqual(projected, set(lists))
            many = 1
            for lists in by_parts.values():
                many *= len(lists)
            self.assertEqual(many, len(told))


X = tuple("abcdefghijklmnopqrstuvwx")


def overlapping_model(rows, soft_rows=()):
    """Unknowns that are 0 or 1, with a saying that always holds over each row of names."""
    said = [("least", tuple((x, 1) for x in row), 0) for row in rows + list(soft_rows)]
    sayings = tuple((f"s{k}", saying) for k, saying in enumerate(said[:len(rows)]))
    soft = tuple((f"t{k}", saying, 1) for k, saying in enumerate(said[len(rows):]))
    model = (tuple((x, (0, 1)) for x in X), sayings, soft)
    check_model(model)
    return model


def overlapping_rows():
    """Lists of rows that have the same names again and again, in other orders."""
    return [
        [X[:12]] + [(x,) + X[1:12] for x in X[12:]],
        [X[:4]] + [(X[0], x, X[1], X[2]) for x in X[4:]],
        [X[:2]] + [(x, X[0]) for x in X[2:]],
        [X[k:k + 12][::-1] for k in range(13)],
        [X[k:k + 12] for k in reversed(range(13))],
        [X[k:k + 2][::-1] for k in range(23)],
        [X[11::-1], X[:12]] * 10 + [X[:11:-1], X[12:]] * 9 + [(X[23], X[0])],
        [X[k::2][::-1] for k in (0, 1)] * 20,
    ]


class PartsOfOverlappingSayings(unittest.TestCase):
    def test_the_same_names_in_other_orders(self):
        chance = random.Random(14)
        for rows in overlapping_rows():
            for _ in range(3):
                for model in (overlapping_model(rows), overlapping_model(rows[:-8], rows[-8:])):
                    with Alarm(self, 10):
                        told = parts(model)
                    self.assertEqual(told, parts_by_words(model), model)
                chance.shuffle(rows)
        with Alarm(self, 10):
            self.assertEqual(parts(overlapping_model(overlapping_rows()[0])), (X,))
            self.assertEqual(parts(overlapping_model(overlapping_rows()[-1])), (X[::2], X[1::2]))

    def test_rows_by_chance(self):
        chance = random.Random(15)
        several = 0
        for _ in range(150):
            lot = chance.sample(X, chance.randint(2, 24))
            rows = [tuple(chance.sample(lot, min(len(lot), chance.randint(1, 12)))) for _ in range(40)]
            model = overlapping_model(rows[:chance.randint(0, 40)], rows[:chance.randint(0, 8)])
            with Alarm(self, 10):
                told = parts(model)
            self.assertEqual(told, parts_by_words(model), model)
            self.assertEqual(sorted(x for part in told for x in part), list(X))
            several += len(told) > 1
        self.assertGreater(several, 30)

    def test_what_asks_for_the_parts(self):
        for rows in overlapping_rows():
            free = overlapping_model(rows)
            pins = tuple((f"p{k}", ("claim", ("is", X[k], k % 2))) for k in range(min(20, 40 - len(rows))))
            pinned = (free[0], free[1] + pins, free[2])
            with Alarm(self, 30):
                self.assertEqual(solve(free), ("filling", (0,) * 24))
                self.assertEqual(first(free), max(len(part) for part in parts(free)))
                for part in parts(free):
                    told = (tuple(item for item in free[0] if item[0] in part),
                            tuple(item for item in free[1] if item[1][1][0][0] in part), ())
                    self.assertEqual(part_model_of(free, part), told)
                self.assertEqual(Keeper(free, ((0, (), 1),)).some(), ("filling", (0,) * 24))
                self.assertEqual(clashes(free, ("s0", "s1")), ((), (((), (0,) * 24),)))
            if len(pins) > 15:
                with Alarm(self, 30):
                    self.assertEqual(count(pinned), 2 ** (24 - len(pins)))
                    self.assertTrue(keeps(pinned, best(pinned, ((0, ((X[0], 1),), 1),))[2]))
                    self.assertEqual([len(pairs) for pairs in every(pinned)], [2] * 24)


class AllFillings(unittest.TestCase):
    def test_by_a_list_of_the_test(self):
        empty = 0
        for model in models_by_chance(4, 150):
            if all_of(model) <= 2000:
                told = fillings_of(model)
                self.assertEqual(all_fillings(model), tuple(told))
                empty += told == []
        self.assertGreater(empty, 10)

    def test_nothing_keeps_the_model(self):
        self.assertEqual(all_fillings(DEAD), ())
        self.assertEqual(all_fillings(no_model(2)), ())
