"""[19] to [21]: values that stand, striking, and logs."""

import random
import unittest

from aswritten.striking import check_log, full_state, stands, strike, strike_log, strike_with
from tests.chance import WORDS, model_by, state_by
from tests.samples import ODD_VALUES, SAYINGS, changed_at_each_place, model_of_all_kinds
from tests.standing_words import stands_by_words, struck_by_words
from tests.test_holding import NUMBERED


def lefts_of(model, state):
    return {x: values for (x, domain), values in zip(model[0], state)}


def model_told(saying, **domains):
    return (tuple(sorted(domains.items())), (("s", saying),), ())


class Stands(unittest.TestCase):
    def check(self, model, state):
        lefts = lefts_of(model, state)
        for item in model[1] + model[2]:
            for x in lefts:
                for v in lefts[x]:
                    right = len(item) == 3 or stands_by_words(item[1], lefts, x, v)
                    self.assertIs(stands(model, state, item[0], x, v), right, (model, state, item[0], x, v))

    def test_each_sort_by_chance(self):
        chance = random.Random(19)
        for number in range(60 * len(WORDS)):
            word = WORDS[number % len(WORDS)]
            model = model_by(chance, (word,), (word,))
            self.check(model, state_by(chance, model))

    def test_a_saying_of_each_sort_with_more_values(self):
        chance = random.Random(20)
        for word in SAYINGS:
            model = (NUMBERED, (("s", SAYINGS[word]), ("w", ("when", ("is", "a", 1), SAYINGS[word]))
                                if word != "when" else ("w", SAYINGS["when"])), ())
            for _ in range(15):
                self.check(model, state_by(chance, model, 0.2))

    def test_unknowns_that_the_saying_does_not_have(self):
        model = ((("x", (0, 1)), ("y", (0, 1))), (("s", ("table", ("x",), ())),), (("t", ("table", ("y",), ()), 3),))
        state = full_state(model)
        self.assertIs(stands(model, state, "s", "y", 0), True)
        self.assertIs(stands(model, state, "s", "x", 0), False)
        # in a soft saying all values stand
        self.assertIs(stands(model, state, "t", "y", 0), True)
        self.assertIs(stands(model=model, state=state, s="t", x="x", v=1), True)

    def test_least_and_same_look_at_the_ends_alone(self):
        # 2 x + 2 y + 2 z is 3 has no values, but all stand by the ends
        model = model_told(("same", (("x", 2), ("y", 2), ("z", 2)), 3), x=(0, 1), y=(0, 1), z=(0, 1))
        state = full_state(model)
        self.assertTrue(all(stands(model, state, "s", x, v) for x in "xyz" for v in (0, 1)))
        model = model_told(("same", (("x", 2), ("y", 2)), 4), x=(0, 1, 5), y=(0, 1))
        self.assertEqual([v for v in (0, 1, 5) if stands(model, full_state(model), "s", "x", v)], [1])
        model = model_told(("least", (("x", -2), ("y", 3)), -1), x=(0, 1, 2, 4), y=(-1, 0, 1))
        self.assertEqual([v for v in (0, 1, 2, 4) if stands(model, full_state(model), "s", "x", v)], [0, 1, 2])
        self.assertEqual([v for v in (-1, 0, 1) if stands(model, full_state(model), "s", "y", v)], [0, 1])

    def test_works_at_each_moment(self):
        # y surely runs from 3 to 4
        model = model_told(("works", ("x", "y"), (2, 3), (2, 2), 3), x=(0, 1, 2, 3, 4, 5), y=(2, 3))
        state = full_state(model)
        self.assertEqual([v for v in range(6) if stands(model, state, "s", "x", v)], [0, 1, 5])
        # the need alone is more than the room
        model = model_told(("works", ("x", "y"), (1, 1), (4, 0), 3), x=(0,), y=(0, 9))
        self.assertIs(stands(model, full_state(model), "s", "x", 0), False)
        self.assertIs(stands(model, full_state(model), "s", "y", 0), False)
        self.assertIs(stands(model, full_state(model), "s", "y", 9), True)
        # where others have no room, no value of what needs nothing stands there
        model = model_told(("works", ("x", "y", "z"), (2, 2, 1), (2, 2, 0), 3), x=(1,), y=(1,), z=(0, 1, 2, 3))
        self.assertEqual([v for v in range(4) if stands(model, full_state(model), "s", "z", v)], [0, 3])

    def test_round_that_comes_back_too_early(self):
        model = model_told(("round", ("x", "y", "z")), x=(-1, 0, 1, 2, 3), y=(0, 2), z=(0, 1))
        self.assertEqual([v for v in (-1, 0, 1, 2, 3) if stands(model, full_state(model), "s", "x", v)], [1, 2])
        state = ((1, 2), (0,), (0, 1))
        # from x to y, and from y, which has one value left, to x
        self.assertEqual([v for v in (1, 2) if stands(model, state, "s", "x", v)], [2])
        model = model_told(("round", ("x",)), x=(0, 1))
        self.assertEqual([v for v in (0, 1) if stands(model, full_state(model), "s", "x", v)], [0])

    def test_the_cases_of_when(self):
        never = ("table", ("y",), ())
        model = model_told(("when", ("or", (("is", "x", 1), ("is", "z", 1))), never), x=(0, 1), y=(0, 1), z=(0, 1))
        # (b): the claim must not be true, so that values with which it surely is true do not stand
        state = full_state(model)
        self.assertEqual([stands(model, state, "s", x, v) for x in "xyz" for v in (0, 1)],
                         [True, False, True, True, True, False])
        # (a): the claim is true with all values left
        self.assertEqual([stands(model, ((1,), (0, 1), (0, 1)), "s", x, v) for x, v
                          in (("x", 1), ("y", 0), ("y", 1), ("z", 0))],
                         [True, False, False, True])
        # (c): the claim may be false, and the inner saying may hold
        wide = model_told(("when", ("is", "x", 1), ("table", ("y",), ((0,),))), x=(0, 1), y=(0, 1))
        self.assertTrue(all(stands(wide, full_state(wide), "s", x, v) for x in "xy" for v in (0, 1)))
        self.assertEqual([stands(wide, ((1,), (0, 1)), "s", "y", v) for v in (0, 1)], [True, False])
        self.assertEqual([stands(wide, ((0, 1), (1,)), "s", "x", v) for v in (0, 1)], [True, False])

    def test_what_stands_by_a_when_may_stand_again(self):
        model = model_told(("when", ("is", "x", 1), ("table", ("y",), ())), x=(0, 1), y=(0, 1))
        self.assertIs(stands(model, ((0, 1), (0, 1)), "s", "x", 1), False)
        self.assertIs(stands(model, ((1,), (0, 1)), "s", "x", 1), True)
        self.assertIsNone(strike(model, ((1,), (0, 1))))


class Strike(unittest.TestCase):
    def test_full_state(self):
        model = model_of_all_kinds()
        self.assertEqual(full_state(model), ((0, 1, 2),) * 8)
        self.assertEqual(full_state(model=((("x", (-3, 7)), ("y", (1,))), (), ())), ((-3, 7), (1,)))

    def test_by_chance_in_another_order(self):
        chance = random.Random(21)
        numbers = {"dead": 0, "less": 0, "same": 0}
        for _ in range(500):
            model = model_by(chance, [chance.choice(WORDS) for _ in range(chance.randint(1, 3))], ("table",), (3, 5))
            state = full_state(model) if chance.random() < 0.5 else state_by(chance, model)
            told = strike(model, state)
            right = struck_by_words([saying for s, saying in model[1]], lefts_of(model, state))
            self.assertEqual(told, None if right is None else tuple(right[x] for x, domain in model[0]), (model, state))
            numbers["dead" if told is None else "same" if told == state else "less"] += 1
            if told is not None:
                self.assertEqual(strike(model, told), told)
        self.assertGreater(min(numbers.values()), 30)

    def test_with_some_names(self):
        model = ((("x", (0, 1, 2)), ("y", (0, 1, 2))), (("a", ("least", (("x", 1),), 1)), ("b", ("unlike", ("x", "y"))),
                                                       ("c", ("table", ("y",), ((1,),)))),
                                                       (("t", ("table", ("x",), ()), 1),))
        state = full_state(model)
        self.assertEqual(strike_with(model, state, ()), state)
        self.assertEqual(strike_with(model, state, ("a",)), ((1, 2), (0, 1, 2)))
        self.assertEqual(strike_with(model, state, ("b",)), state)
        self.assertEqual(strike_with(model, state, ("c", "b")), ((0, 2), (1,)))
        self.assertEqual(strike_with(model=model, state=state, names=("a", "b", "c")), ((2,), (1,)))
        self.assertEqual(strike(model, state), ((2,), (1,)))
        self.assertEqual(strike_with(model, ((0,), (0,)), ("b",)), None)
        self.assertEqual(strike_with(model, ((0,), (0,)), ("a", "c")), None)
        self.assertEqual(strike_with(model, ((0,), (0,)), ()), ((0,), (0,)))

    def test_with_some_names_by_chance(self):
        chance = random.Random(22)
        for _ in range(150):
            model = model_by(chance, [chance.choice(WORDS) for _ in range(3)], (), (3, 5))
            state = state_by(chance, model)
            for names in ((), ("s0",), ("s1", "s0"), ("s2", "s1"), ("s0", "s1", "s2")):
                told = strike_with(model, state, names)
                fewer = (model[0], tuple(item for item in model[1] if item[0] in names), ())
                self.assertEqual(told, strike(fewer, state))


class Logs(unittest.TestCase):
    def check(self, model, state, log):
        """Whether the log is one, told by the words of the document."""
        lefts = lefts_of(model, state)
        sayings = dict(model[1])
        for number, (x, v, s) in enumerate(log):
            if x not in lefts or v not in lefts[x] or s not in sayings or stands_by_words(sayings[s], lefts, x, v):
                return False
            lefts[x] = tuple(u for u in lefts[x] if u != v)
            if not lefts[x]:
                return number == len(log) - 1
        return all(stands_by_words(saying, lefts, x, v) for saying in sayings.values() for x in lefts for v in lefts[x])

    def test_logs_of_strike_log(self):
        chance = random.Random(27)
        ends = {True: 0, False: 0}
        for _ in range(300):
            model = model_by(chance, [chance.choice(WORDS) for _ in range(chance.randint(1, 3))], ("table",), (3, 5))
            state = state_by(chance, model)
            log = strike_log(model, state)
            self.assertIs(type(log), tuple)
            self.assertTrue(self.check(model, state, log))
            self.assertIs(check_log(model, state, log), True)
            ends[strike(model, state) is None] += 1
        self.assertGreater(min(ends.values()), 50)

    def other_log(self, chance, model, state):
        lefts = lefts_of(model, state)
        log = []
        while all(lefts.values()):
            gone = [(x, v, s) for s, saying in model[1] for x in lefts for v in lefts[x]
                    if not stands_by_words(saying, lefts, x, v)]
            if not gone:
                break
            x, v, s = chance.choice(gone)
            log.append((x, v, s))
            lefts[x] = tuple(u for u in lefts[x] if u != v)
        return tuple(log)

    def test_logs_in_another_order_and_spoilt_ones(self):
        chance = random.Random(28)
        told = {True: 0, False: 0}
        for _ in range(120):
            words = [chance.choice(WORDS + ("when",) * 5) for _ in range(chance.randint(1, 3))]
            model = model_by(chance, words, ("table",), (3, 4))
            state = state_by(chance, model)
            log = self.other_log(chance, model, state)
            self.assertIs(check_log(model, state, log), True, (model, state, log))
            spoilt = [log[:k] + log[k + 1:] for k in range(len(log))] + [log[:k] for k in range(len(log))]
            spoilt += [log + log[-1:], log[::-1], log + (("a", model[0][0][1][0], "s0"),)]
            spoilt += [log[:k] + ((x, v, other),) + log[k + 1:] for k, (x, v, s) in enumerate(log) for other
                       in ("t0", "s1", "q", "a")]
            spoilt += [log[:k] + ((x, v + 1, s),) + log[k + 1:] for k, (x, v, s) in enumerate(log)]
            for value in spoilt:
                right = self.check(model, state, value)
                self.assertIs(check_log(model, state, value), right, (model, state, value))
                told[right] += 1
        self.assertGreater(min(told.values()), 30)

    model = ((("x", (0, 1)), ("y", (0, 1))), (("a", ("least", (("x", 1),), 1)), ("b", ("unlike", ("x", "y")))),
             (("t", ("table", ("x",), ()), 1),))
    log = (("x", 0, "a"), ("y", 1, "b"))

    def test_too_early_and_too_late(self):
        state = full_state(self.model)
        self.assertIs(check_log(self.model, state, self.log), True)
        self.assertIs(check_log(self.model, state, self.log[:1]), False)
        self.assertIs(check_log(self.model, state, ()), False)
        self.assertIs(check_log(self.model, state, self.log + (("y", 0, "b"),)), False)
        self.assertIs(check_log(self.model, ((1,), (0,)), ()), True)
        self.assertIs(check_log(self.model, ((0,), (0,)), (("x", 0, "a"),)), True)
        self.assertIs(check_log(self.model, ((0,), (0,)), (("x", 0, "a"), ("y", 0, "b"))), False)
        self.assertIs(check_log(self.model, ((0,), (0,)), (("y", 0, "b"),)), True)
        self.assertIs(check_log(model=self.model, state=((0,), (0,)), value=()), False)

    def test_wrong_entries(self):
        state = full_state(self.model)
        for entry in (("x", False, "a"), ("x", True, "a"), ("x", 1, "a"), ("x", 0, "b"), ("x", 0, "t"), ("x", 0, "x"),
                      ("y", 0, "a"),
                      ("q", 0, "a"), ("x", 2, "a"), ("x", None, "a"), ("x", 0), ("x", 0, "a", 0), ["x", 0, "a"], None,
                      "x0a", (),
                      ("x", "0", "a"), (("x",), 0, "a"), ("x", 0, ("a",)), ("x", 0, True), (0, 0, 0), ("x", -1, "a")):
            self.assertIs(check_log(self.model, state, (entry,) + self.log[1:]), False, entry)

    def test_values_of_any_form(self):
        state = full_state(self.model)
        for value in ODD_VALUES + (list(self.log), self.log[0], "log"):
            self.assertIs(check_log(self.model, state, value), False, value)
            self.assertIs(check_log(self.model, state, (value,) + self.log), False)
            self.assertIs(check_log(self.model, state, self.log + (value,)), False)
        free = (self.model[0], (), ())
        for value in ODD_VALUES:
            self.assertIs(check_log(free, state, value), value == (), value)
        for odd in (True, False, None, 0, 1, "x", "y", "b", ()):
            for value in changed_at_each_place(self.log, odd):
                right = repr(value) == repr(self.log)
                self.assertIs(check_log(self.model, state, value), right, value)
