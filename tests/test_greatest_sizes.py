"""[3]: the greatest sizes take a short time."""

import random
import time
import unittest

from aswritten.errors import TooFar
from aswritten.givens import given_row, sign_rows, telling_rows
from aswritten.judge import first_fault, judge, trimmed
from aswritten.models import check_model
from aswritten.reasons import dead_end, reason
from aswritten.rows import check_row, check_sign, row_holds, sign_holds
from aswritten.striking import check_log, full_state, stands, strike, strike_log
from aswritten.turns import class_of, found, keeps_model
from tests.notes import row
from tests.test_general import greatest_model

# far more than what these calls take, and far less than trying all values would
LIMIT = 20
VALUES = tuple(range(12))
NAMES = tuple(f"unknown.with.a.name.{k:04}" for k in range(24))
WORDS = ("least", "same", "unlike", "counts", "table", "pick", "top", "ahead", "machine", "works", "round")


def saying_by(chance, word):
    xs = tuple(chance.sample(NAMES, 14))
    if word in ("least", "same"):
        return (word, tuple((x, chance.choice((-100, -7, 1, 5, 100))) for x in xs[:12]), chance.randint(0, 500))
    if word in ("unlike", "round"):
        return (word, xs[:12])
    if word == "counts":
        lows = [chance.choice((0, 0, 1, 2)) for v in VALUES]
        return (word, xs[:12], tuple((v, lows[v], lows[v] + chance.randint(0, 2)) for v in VALUES))
    if word == "table":
        return (word, xs[:6], tuple(sorted({tuple(chance.choice(VALUES) for _ in range(6)) for _ in range(60)})))
    if word == "pick":
        return (word, xs[0], xs[1:13], xs[13])
    if word == "top":
        return (word, xs[:12], xs[12])
    if word == "ahead":
        return (word, xs[:6], xs[6:12])
    if word == "machine":
        firsts = sorted(chance.sample([(q, v) for q in range(12) for v in VALUES], 40))
        return (word, xs[:12], 3, tuple((q, v, chance.randint(0, 11)) for q, v in firsts), (1, 5, 7))
    return ("works", xs[:12], tuple(chance.randint(1, 50) for _ in range(12)),
            tuple(chance.randint(1, 100) for _ in range(12)), chance.randint(100, 400))


def when_by(chance):
    a, b, c = chance.sample(NAMES, 3)
    claim = chance.choice((("is", a, 1), ("or", (("is", a, 0), ("not", ("from", b, 9)))),
                           ("not", ("and", (("is", c, 2), ("is", b, 3))))))
    return ("when", claim, saying_by(chance, chance.choice(WORDS)))


def great_model(chance, word):
    unknowns = tuple((x, VALUES) for x in NAMES)
    told = [when_by(chance) if word == "when" else saying_by(chance, word if word != "all" else chance.choice(WORDS))
            for _ in range(40)]
    return (unknowns, tuple((f"s{k}", saying) for k, saying in enumerate(told)), ())


class Clock:
    """Fails if what it is around takes too long."""

    def __init__(self, case, limit=LIMIT):
        self.case, self.limit = case, limit

    def __enter__(self):
        self.begin = time.perf_counter()

    def __exit__(self, kind, value, trace):
        if kind is None:
            self.case.assertLess(time.perf_counter() - self.begin, self.limit)


class GreatestSizes(unittest.TestCase):
    def test_rows(self):
        model = greatest_model()
        filling = tuple(domain[-1] for x, domain in model[0])
        with Clock(self):
            for s in [item[0] for item in model[1] + model[2]][:15] + ["t0"]:
                for word, told in (("sign", sign_rows(model, s)), ("tells", telling_rows(model, s))):
                    if told:
                        self.assertEqual(given_row(model, (word, s, len(told) - 1)), told[-1])
                        self.assertIsNone(check_row(model, told[-1]))
                        row_holds(model, told[0], filling)
                        sign = told[0][0][0][0][0] if told[0][0] else ("is", model[0][0][0], 0)
                        self.assertTrue(check_sign(model, sign))
                        sign_holds(model, sign, filling)

    def test_papers_of_many_steps(self):
        model = greatest_model()
        wanted = row("-> " + ", ".join(f"is {NAMES[0]} {v}" for v in VALUES))
        numbers = {s: (len(sign_rows(model, s)), len(telling_rows(model, s))) for s, saying in model[1][:15]}
        steps = [("given", ("one", NAMES[0], 0))]
        for s, (signs, tells) in numbers.items():
            steps += [("given", ("sign", s, k)) for k in range(signs)]
            steps += [("given", ("tells", s, k)) for k in range(tells)]
        many = len(steps)
        self.assertGreater(many, 5000)
        steps += [("add", tuple((k, 1) for k in range(many))), ("trim", many), ("divide", many + 1, 7),
                  ("led", wanted, tuple(range(many - 50, many))), ("add", ((0, 1),))]
        with Clock(self):
            # what is looked at last has to clash
            self.assertEqual(first_fault(model, ("always", wanted), (((), (), (), ()), tuple(steps[:-1]))), many + 3)
            steps[-2] = ("led", wanted, tuple(range(many - 50, many)) + (0,))
            paper = (((), (), (), ()), tuple(steps))
            self.assertTrue(judge(model, ("always", wanted), paper))
            self.assertEqual(trimmed(model, ("always", wanted), paper)[1], (steps[0], steps[-1]))

    def test_exchanges(self):
        model = greatest_model()
        same = tuple((v, v) for v in VALUES)
        change = ((NAMES[0], NAMES[1], same), (NAMES[1], NAMES[0], same))
        rows = tuple(sorted((v, (v + k) % 12) * 3 for v in VALUES for k in (0, 1, 2, 5, 7)))
        even = (tuple((x, VALUES) for x in NAMES), tuple((f"s{k}", ("table", NAMES[:6], rows)) for k in range(40)), ())
        with Clock(self):
            keeps_model(model, change)
            self.assertIsInstance(found(model), tuple)
            self.assertIsInstance(found(even), tuple)
            turns = tuple(((x, x, tuple((v, (v + 1) % 12) for v in VALUES)),) for x in NAMES[:12])
            with self.assertRaises(TooFar):
                class_of((even[0], (), ()), turns, (0,) * 24)

    def test_striking_and_reasons(self):
        chance = random.Random(3)
        dead = 0
        for word in WORDS + ("when", "all"):
            model = great_model(chance, word)
            self.assertIsNone(check_model(model))
            for whole in (True, False):
                state = full_state(model)
                if not whole:
                    sizes = [chance.choice((1, 2, 3, 6, 12)) for x in NAMES]
                    state = tuple(tuple(sorted(chance.sample(VALUES, size))) for size in sizes)
                with Clock(self):
                    log = strike_log(model, state)
                    self.assertTrue(check_log(model, state, log))
                    closed = strike(model, state)
                    for s, saying in model[1][:5]:
                        stands(model, state, s, NAMES[0], state[0][0])
                for k in sorted(chance.sample(range(len(log)), min(3, len(log)))):
                    with Clock(self):
                        told, paper = reason(model, state, log, k)
                    self.assertTrue(judge(model, ("row", told), paper))
                    s = log[k][2]
                    many = 12 * len({x for x in NAMES if f"'{x}'" in repr(dict(model[1])[s])})
                    self.assertLessEqual(len(paper[1]), 1000 * (many + 1))
                if closed is None:
                    dead += 1
                    with Clock(self):
                        told, paper = dead_end(model, state, log)
                    self.assertTrue(judge(model, ("row", told), paper))
                    self.assertLessEqual(len(paper[1]), 1000 * (len(log) + 1) * (24 * 12 + 1))
        self.assertGreater(dead, 5)

    def test_an_unlike_of_12_unknowns_and_values(self):
        unknowns = tuple((x, VALUES) for x in NAMES)
        model = (unknowns, (("s", ("unlike", NAMES[:12])),), ())
        # 11 of them share 11 values
        state = (VALUES[:11],) * 11 + (VALUES,) * 13
        with Clock(self):
            log = strike_log(model, state)
            self.assertEqual(sorted((x, v) for x, v, s in log), [(NAMES[11], v) for v in VALUES[:11]])
            for k in range(len(log)):
                told, paper = reason(model, state, log, k)
                self.assertTrue(judge(model, ("row", told), paper))
                self.assertLessEqual(len(paper[1]), 1000 * 145)

    def test_a_ring_of_11_places_without_place_0(self):
        plain = ("round", NAMES[:12])
        sayings = (("s", plain), ("w", ("when", ("is", NAMES[13], 0), plain)))
        model = (tuple((x, VALUES) for x in NAMES), sayings, ())
        state = (VALUES, VALUES) + tuple((k + 1 if k < 11 else 1,) for k in range(2, 12)) + (VALUES, (0,)) + (VALUES,
                ) * 10
        for s in ("s", "w"):
            with Clock(self):
                self.assertFalse(stands(model, state, s, NAMES[1], 2))
                told, paper = reason(model, state, ((NAMES[1], 2, s),), 0)
                self.assertTrue(judge(model, ("row", told), paper))
                self.assertLessEqual(len(paper[1]), 1000 * (11 * 12 + 1))

    def test_a_great_claim(self):
        # 256 tuples of values of 24 unknowns, of which 8 have 2 values each
        unknowns = tuple((x, (0, 1) if k % 3 == 0 else (k,)) for k, x in enumerate(NAMES))
        parts = tuple(("is", x, domain[0]) for x, domain in unknowns)
        claim = ("not", ("and", parts[:24]))
        inner = ("round", NAMES[:12])
        wide = unknowns[:22] + ((NAMES[22], VALUES), (NAMES[23], VALUES))
        for said in (("claim", claim), ("when", claim, inner),
                     ("when", ("not", ("and", parts[:22])), ("unlike", NAMES[22:]))):
            model = (unknowns if said[0] == "claim" or said[2] == inner else wide, (("s", said),), ())
            self.assertIsNone(check_model(model))
            with Clock(self):
                self.assertIsNotNone(telling_rows(model, "s"))
                state = tuple(domain[:1] for x, domain in model[0])
                state = state[:21] + ((1,) if len(model[0][21][1]) > 1 else model[0][21][1],) + state[22:]
                log = strike_log(model, state)
                self.assertTrue(check_log(model, state, log))
                for k in range(len(log)):
                    told, paper = reason(model, state, log, k)
                    self.assertTrue(judge(model, ("row", told), paper))
                    self.assertLessEqual(len(paper[1]), 1000 * 32)
