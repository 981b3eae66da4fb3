"""[10] to [12]: given rows hold in every filling, and telling rows hold just where the saying does."""

import random
import unittest

from aswritten.givens import given_row, sign_rows, telling_rows
from aswritten.models import keeps_saying
from aswritten.rows import check_row, row_holds
from tests.chance import WORDS, filling_by, model_by
from tests.samples import all_tuples


class Meaning(unittest.TestCase):
    def test_by_chance(self):
        chance = random.Random(11)
        for number in range(45 * len(WORDS)):
            word = WORDS[number % len(WORDS)]
            model = model_by(chance, (word,), (word,))
            fillings = all_tuples(model[0])
            for filling in chance.sample(fillings, min(20, len(fillings))):
                for name in ("s0", "t0"):
                    for row in sign_rows(model, name):
                        self.assertTrue(row_holds(model, row, filling), (model, row, filling))
                told = [row_holds(model, row, filling) for row in telling_rows(model, "s0")]
                self.assertEqual(all(told), keeps_saying(model, "s0", filling), (model, filling))
                self.assertTrue(all(row_holds(model, row, filling) for row in telling_rows(model, "t0")))

    def test_all_are_rows_of_the_model(self):
        chance = random.Random(12)
        for number in range(10 * len(WORDS)):
            model = model_by(chance, (WORDS[number % len(WORDS)],), (WORDS[number % len(WORDS)],))
            for name in ("s0", "t0"):
                for row in sign_rows(model, name) + telling_rows(model, name):
                    self.assertIsNone(check_row(model, row))

    def test_rows_of_unknowns_hold_everywhere(self):
        chance = random.Random(13)
        for _ in range(60):
            model = model_by(chance, ())
            names = [("one", x, k) for x, domain in model[0] for k in (0, 1)]
            names += [("part", x, v, k) for x, domain in model[0] for v in domain for k in (0, 1)]
            names += [("chain", x, v) for x, domain in model[0] for v in domain[1:-1]]
            filling = filling_by(chance, model)
            for name in names:
                row = given_row(model, name)
                self.assertIsNone(check_row(model, row))
                self.assertTrue(row_holds(model, row, filling), (name, filling))
