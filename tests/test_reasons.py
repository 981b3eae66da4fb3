"""[22]: reasons for entries of logs, and dead ends."""

import random
import unittest
import unittest.mock

from aswritten.judge import first_fault, trimmed
from aswritten.models import check_model, is_small, unknowns_of
from aswritten.reasons import dead_end, reason
from aswritten.striking import check_log, full_state, stands, strike, strike_log
from tests.chance import WORDS, model_by, right_claim_by, saying_by, state_by
from tests.notes import row
from tests.samples import SAYINGS

NO_HEAD = ((), (), (), ())


def values_of(model, names):
    return sum(len(domain) for x, domain in model[0] if x in names)


class Papers(unittest.TestCase):
    def check_taken(self, model, told, paper):
        self.assertEqual(paper[0], NO_HEAD)
        self.assertIsNone(first_fault(model, ("row", told), paper), (model, told, paper))
        self.assertEqual(trimmed(model, ("row", told), paper), paper)

    def check_sides(self, told, gone, more=()):
        parts, least = told
        self.assertEqual(least, 1)
        self.assertEqual(list(parts), sorted(parts))
        for side, c in parts:
            self.assertEqual(c, 1)
            if side not in more:
                sign, worth = side
                self.assertIs(worth, True)
                self.assertEqual(sign[0], "is")
                self.assertIn(sign[1:], gone)
        self.assertTrue(all((side, 1) in parts for side in more))

    def check_reason(self, model, state, log, k):
        x, v, s = log[k]
        told, paper = reason(model, state, log, k)
        lone = (model[0], tuple(item for item in model[1] if item[0] == s), ())
        self.check_taken(model, told, paper)
        self.check_taken(lone, told, paper)
        own = unknowns_of(model, s)
        gone = {(y, w) for (y, domain), left in zip(model[0], state) for w in domain if w not in left and y in own}
        gone |= {(y, w) for y, w, other in log[:k] if y in own}
        self.check_sides(told, gone, ((("is", x, v), False),))
        self.assertLessEqual(len(paper[1]), 1000 * (values_of(model, own) + 1))
        for step in paper[1]:
            if step[0] == "given" and step[1][0] in ("sign", "tells") or step[0] == "told":
                self.assertEqual(step[1][1] if step[0] == "given" else step[1], s)
        return paper

    def check_dead_end(self, model, state, log):
        told, paper = dead_end(model, state, log)
        self.check_taken(model, told, paper)
        self.check_sides(told, {(y, w) for (y, domain), left in zip(model[0], state) for w in domain if w not in left})
        every = values_of(model, [x for x, domain in model[0]])
        self.assertLessEqual(len(paper[1]), 1000 * (len(log) + 1) * (every + 1))
        return told, paper

    def check_log_whole(self, model, state, log):
        """Check all reasons and the dead end; return how many entries there are, and whether there is a dead end."""
        self.assertTrue(check_log(model, state, log))
        for k in range(len(log)):
            self.check_reason(model, state, log, k)
        if strike(model, state) is None:
            self.check_dead_end(model, state, log)
            return len(log), True
        return len(log), False


class Reasons(Papers):
    def test_an_example(self):
        model = ((("x", (0, 1, 2)), ("y", (0, 1, 2))), (("a", ("least", (("x", 1), ("y", 1)), 3)),
                                                       ("b", ("unlike", ("x", "y")))), ())
        state = ((0, 1), (0, 1, 2))
        # x is at most 1, so that y is 2, and x is 1
        self.assertEqual(strike(model, state), ((1,), (2,)))
        log = (("y", 0, "a"), ("x", 0, "a"), ("y", 1, "a"))
        self.assertEqual(reason(model, state, log, 0)[0], row("is y 0 ->"))
        self.assertEqual(reason(model, state, log, 1)[0], row("is x 0 ->"))
        self.assertEqual(reason(model=model, state=state, log=log, k=2)[0], row("is y 1 -> is x 2"))
        for k in range(3):
            self.check_reason(model, state, log, k)

    def test_each_sort_by_chance(self):
        chance = random.Random(220)
        entries = {word: 0 for word in WORDS}
        dead = {word: 0 for word in WORDS}
        for number in range(25 * len(WORDS)):
            word = WORDS[number % len(WORDS)]
            model = model_by(chance, (word,), ("table",))
            state = state_by(chance, model)
            many, is_dead = self.check_log_whole(model, state, strike_log(model, state))
            entries[word] += many
            dead[word] += is_dead
        self.assertGreater(min(entries.values()), 4, entries)
        self.assertGreater(sum(dead.values()), 40, dead)

    def test_several_sayings_and_logs_in_any_order(self):
        chance = random.Random(221)
        dead = 0
        for _ in range(150):
            words = [chance.choice(WORDS + ("when",) * 8) for _ in range(chance.randint(1, 4))]
            model = model_by(chance, words, ("table",))
            state = state_by(chance, model, 0.7)
            log = log_in_any_order(chance, model, state)
            dead += self.check_log_whole(model, state, log)[1]
        self.assertGreater(dead, 30)


def log_in_any_order(chance, model, state):
    lefts = {x: list(left) for (x, domain), left in zip(model[0], state)}
    log = []
    while all(lefts.values()):
        now = tuple(tuple(left) for left in lefts.values())
        gone = [(x, v, s) for s, saying in model[1] for x in lefts for v in lefts[x] if not stands(model, now, s, x, v)]
        if not gone:
            break
        log.append(chance.choice(gone))
        lefts[log[-1][0]].remove(log[-1][1])
    return tuple(log)


def wide_model(chance, word):
    """A saying of this word that is not small, or a "when" with it whose claim has an unknown of 12 values."""
    unknowns = tuple((x, tuple(range(chance.choice((5, 6, 6, 7))))) for x in "abcdef")
    if chance.random() < 0.4:
        unknowns = tuple((x, tuple(sorted(chance.sample(range(-1, 9), chance.choice((4, 5, 6)))))) for x in "abcdef")
    unknowns += (("u", tuple(range(12))),)
    saying = saying_by(chance, word, unknowns[:6])
    if word == "bar":
        names = saying[1]
        rows = {tuple(chance.randint(0, 3) for _ in names) for _ in range(30)}
        saying = (word, names, tuple(sorted(rows)))
    if word in ("bar", "product", "claim") or chance.random() < 0.3:
        claim = ("and", (("from", "u", chance.randint(0, 9)), right_claim_by(chance, unknowns[:1])))
        claim = chance.choice((claim, ("or", claim[1]), ("not", claim), claim[1][0]))
        saying = ("when", claim, saying)
    return (unknowns, (("s", saying),), ())


class Wide(Papers):
    def test_sayings_that_are_not_small(self):
        chance = random.Random(222)
        met = {}
        for number in range(60 * len(WORDS[:-1])):
            word = WORDS[number % len(WORDS[:-1])]
            model = wide_model(chance, word)
            try:
                check_model(model)
            except ValueError:
                continue
            if is_small(model, "s"):
                continue
            state = tuple(tuple(sorted(chance.sample(domain, chance.choice((1, 1, 2, 3, len(domain)))))) for x, domain
                          in model[0])
            log = log_in_any_order(chance, model, state)
            key = word + (" in when" if model[1][0][1][0] == "when" else "")
            for k in sorted(chance.sample(range(len(log)), min(3, len(log)))):
                self.check_reason(model, state, log, k)
                met[key] = met.get(key, 0) + 1
            if strike(model, state) is None:
                self.check_dead_end(model, state, log)
                met["dead " + key] = met.get("dead " + key, 0) + 1
        for word in WORDS[:-1]:
            self.assertGreater(met.get(word + " in when", 0), 0, (word, met))
            if word not in ("bar", "product", "claim"):
                self.assertGreater(met.get(word, 0), 0, (word, met))
        self.assertGreater(sum(met[key] for key in met if key.startswith("dead")), 80)


class WithoutTold(Papers):
    def test_what_is_drawn_for_great_sayings_is_right_for_small_ones(self):
        # where no saying is taken as small, each one is reasoned with as those are that are not
        chance = random.Random(225)
        with unittest.mock.patch("aswritten.whys.are_small", return_value=False):
            for number in range(80 * len(WORDS)):
                model = model_by(chance, (WORDS[number % len(WORDS)],))
                state = state_by(chance, model)
                log = strike_log(model, state)
                for k in range(len(log)):
                    paper = self.check_reason(model, state, log, k)
                    self.assertNotIn("told", [step[0] for step in paper[1]])
            for _ in range(150):
                words = [chance.choice(WORDS + ("when",) * 8) for _ in range(chance.randint(1, 3))]
                model = model_by(chance, words)
                state = state_by(chance, model)
                self.check_log_whole(model, state, log_in_any_order(chance, model, state))


class Rounds(Papers):
    names = tuple(f"x{k}" for k in range(6))

    def model_with_u(self, saying):
        return (tuple((x, tuple(range(7))) for x in self.names) + (("u", (0, 1)),), (("s", saying),), ())

    def test_the_ways_in_which_a_round_fails(self):
        plain = ("round", self.names)
        for saying in (plain, ("when", ("is", "u", 1), plain)):
            model = self.model_with_u(saying)
            for state, x, v in (
                    # no place; too few places for others; back at place 0; a ring of places without 0
                    (((0, 6), (0, 1, 2)), "x0", 6), (((1, 2), (1, 2), (1, 2, 3)), "x2", 1),
                    (((1,), (0, 2)), "x1", 0), (((1,), (2,), (0, 3)), "x2", 0), (((0, 1, 2),), "x0", 0),
                    (((1, 2), (1, 2)), "x1", 1),
                    ((range(6), (1, 2), (1,)), "x1", 2), ((range(6), (1, 2, 3), (3,), (4,), (1,)), "x1", 2),
                    ((range(6), (2,), (3,), (4,), (5,), (0, 1)), "x5", 1)):
                whole = tuple(tuple(left) for left in state) + (tuple(range(7)),) * (6 - len(state)) + ((1,),)
                self.assertFalse(stands(model, whole, "s", x, v), (whole, x, v))
                self.check_reason(model, whole, ((x, v, "s"),), 0)


class Whens(Papers):
    def test_both_cases(self):
        unknowns = (("a", tuple(range(8))), ("b", tuple(range(8))), ("c", tuple(range(8))), ("p", (0, 1)),
                    ("q", (0, 1, 2)))
        claim = ("or", (("is", "p", 1), ("and", (("from", "q", 1), ("not", ("is", "q", 2))))))
        for word in ("unlike", "round", "machine"):
            inner = (word, ("a", "b", "c"))
            if word == "machine":
                inner += (0, tuple((q, v, min(9, q + v)) for q in range(5) for v in range(8)), (9,))
            model = (unknowns, (("s", ("when", claim, inner)),), ())
            self.assertFalse(is_small(model, "s"))
            # (a): the claim is surely true
            for state in (((1,), (0, 1, 2), (0, 1, 2, 5), (1,), (0, 1, 2)), ((1,), (1, 0), (0, 2), (0,), (1,)),
                          ((0, 1), (0, 1), (0, 1), (1,), (0,))):
                log = strike_log(model, state)
                self.assertTrue(log)
                self.check_log_whole(model, state, log)
            # (b): the inner saying cannot hold
            state = ((0,), (0,), (0,), (0, 1), (0, 1, 2))
            log = strike_log(model, state)
            self.assertEqual(sorted(log), [("p", 1, "s"), ("q", 1, "s")])
            self.check_log_whole(model, state, log)
            self.check_log_whole(model, state, log[::-1])

    def test_claims_of_several_unknowns_with_several_values_left(self):
        unknowns = tuple((x, (0, 1, 2, 3)) for x in "abcd") + tuple((x, (0, 1, 2)) for x in "pqrs")
        parts = tuple(("from", x, 1) for x in "abcd")
        for inner in (("unlike", ("p", "q", "r", "s")), ("bar", ("p",), ((0,), (1,), (2,))), ("unlike", ("a", "p"))):
            for claim in (("and", parts), ("not", ("or", parts)), ("or", parts)):
                model = (unknowns, (("s", ("when", claim, inner)),), ())
                self.assertFalse(is_small(model, "s"))
                chance = random.Random(226)
                for _ in range(12):
                    state = tuple(left if len(left) > 1 else domain for left, (x, domain) in
                                  zip(state_by(chance, model, 0.2), unknowns))
                    log = strike_log(model, state)
                    self.check_log_whole(model, state, log)

    def test_an_unknown_of_both_claim_and_inner_saying(self):
        unknowns = tuple((x, tuple(range(7))) for x in "abcd")
        model = (unknowns, (("s", ("when", ("from", "a", 3), ("unlike", ("a", "b", "c", "d")))),), ())
        for state in (((3, 4, 5), (4,), (3, 4), (3, 4, 5, 6)), ((2, 3), (3,), (4,), (4,)),
                      ((0, 3), (3, 4), (3, 4), (3, 4))):
            log = strike_log(model, state)
            self.assertTrue(log)
            self.check_log_whole(model, state, log)


class DeadEnds(Papers):
    def test_from_the_full_state_the_row_has_no_sides(self):
        chance = random.Random(223)
        met = 0
        for _ in range(300):
            model = model_by(chance, [chance.choice(WORDS) for _ in range(3)])
            state = full_state(model)
            if strike(model, state) is None:
                met += 1
                told, paper = self.check_dead_end(model, state, log_in_any_order(chance, model, state))
                self.assertEqual(told, ((), 1))
                self.assertIsNone(first_fault(model, ("none",), paper))
        self.assertGreater(met, 60)

    def test_a_log_of_one_entry(self):
        model = ((("x", (0, 1)), ("y", (0, 1))), (("a", ("unlike", ("x", "y"))),), ())
        told, paper = self.check_dead_end(model, ((1,), (1,)), (("y", 1, "a"),))
        self.assertEqual(told, row("-> is x 0, is y 0"))

    def test_only_some_entries_are_needed(self):
        unknowns = (("x", (0, 1)), ("y", (0, 1)), ("z", (0, 1, 2)))
        model = (unknowns, (("a", ("least", (("z", 1),), 1)), ("b", ("same", (("x", 2), ("y", -2)), 1))), ())
        log = (("z", 0, "a"), ("x", 0, "b"), ("y", 0, "b"), ("y", 1, "b"))
        self.assertTrue(check_log(model, full_state(model), log))
        told, paper = dead_end(model=model, state=full_state(model), log=log)
        self.assertEqual(told, ((), 1))
        self.assertNotIn("a", [step[1][1] for step in paper[1] if step[0] == "given"])

    def test_every_saying_of_the_samples(self):
        chance = random.Random(224)
        for word in SAYINGS:
            unknowns = tuple((x, (0, 1, 2)) for x in "abcd")
            model = (unknowns, (("s", SAYINGS[word]), ("never", ("table", ("d",), ()))), ())
            for _ in range(10):
                state = state_by(chance, model)
                self.check_log_whole(model, state, log_in_any_order(chance, model, state))
