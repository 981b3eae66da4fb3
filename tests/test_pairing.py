"""[23]: pairings, short lots and placings."""

import itertools
import random
import unittest

from aswritten.pairing import greatest_pairing, placed, short_lot


def most_paired(rows):
    """The greatest number of rows that can have an integer of their own, by trying all."""
    best = 0
    for values in itertools.product(*[row + (None,) for row in rows]):
        own = [v for v in values if v is not None]
        if len(set(own)) == len(own):
            best = max(best, len(own))
    return best


def placings(rows, triples):
    return [values for values in itertools.product(*rows)
            if all(low <= values.count(v) <= high for v, low, high in triples)]


def rows_by(chance, many=5, values=5):
    return tuple(tuple(sorted(chance.sample(range(values), chance.randint(0 if chance.random() < 0.1 else 1, 4))))
                 for _ in range(chance.randint(1, many)))


def triples_by(chance):
    triples = []
    for v in sorted(chance.sample(range(-1, 6), chance.randint(1, 5))):
        low = chance.choice((0, 0, 0, 1, 1, 2))
        triples.append((v, low, low + chance.choice((0, 0, 1, 1, 2))))
    return tuple(triples)


class Pairings(unittest.TestCase):
    def check(self, rows):
        told = greatest_pairing(rows)
        self.assertIs(type(told), tuple)
        self.assertEqual(len(told), len(rows))
        own = [v for v in told if v is not None]
        self.assertEqual(len(own), len(set(own)))
        self.assertTrue(all(v is None or v in row for v, row in zip(told, rows)))
        short = short_lot(rows)
        if len(own) == len(rows):
            self.assertIsNone(short)
            return None
        lot, values = short
        self.assertEqual(list(lot), sorted(set(lot)))
        self.assertTrue(all(k in range(len(rows)) for k in lot))
        self.assertEqual(values, tuple(sorted({v for k in lot for v in rows[k]})))
        self.assertLess(len(values), len(lot))
        return len(own)

    def test_small_ones(self):
        self.assertEqual(greatest_pairing(((3,),)), (3,))
        self.assertEqual(greatest_pairing(((),)), (None,))
        self.assertEqual(short_lot(((),)), ((0,), ()))
        self.assertEqual(short_lot(((1, 2), (), (1, 2))), ((1,), ()))
        self.assertEqual(greatest_pairing(rows=((1, 2), (1,), (2, 3))), (2, 1, 3))
        self.assertIsNone(short_lot(rows=((1, 2), (1,), (2, 3))))

    def test_rows_that_just_cannot_be_paired(self):
        # the last row takes the place of others all along the chain
        chain = tuple((k, k + 1) for k in range(23))
        self.assertIsNone(self.check(chain + ((0,),)))
        self.assertIsNone(self.check(((23,),) + chain))
        self.assertEqual(self.check(((0,),) + chain[:22] + ((22,),)), 23)

    def test_rows_that_are_all_alike(self):
        for many in range(1, 25):
            for size in (1, many - 1, many):
                rows = (tuple(range(-5, size - 5)),) * many
                told = self.check(rows)
                self.assertEqual(told, None if size == many else size)

    def test_by_chance(self):
        chance = random.Random(23)
        for _ in range(800):
            rows = rows_by(chance)
            told = self.check(rows)
            self.assertEqual(told, None if most_paired(rows) == len(rows) else most_paired(rows))

    def test_great_ones(self):
        chance = random.Random(24)
        for _ in range(20):
            rows = tuple(tuple(sorted(chance.sample(range(-10 ** 29, -10 ** 29 + 800), 600))) for _ in range(24))
            self.assertIsNone(self.check(rows))
            self.check(tuple(tuple(sorted(chance.sample(range(20), chance.randint(1, 5)))) for _ in range(24)))


class Placed(unittest.TestCase):
    def check(self, rows, triples):
        told = placed(rows, triples)
        self.assertIs(type(told), tuple)
        lows = {v: low for v, low, high in triples}
        highs = {v: high for v, low, high in triples}
        if told[0] == "placed":
            self.assertEqual(len(told), 2)
            self.assertEqual(len(told[1]), len(rows))
            self.assertTrue(all(v in row for v, row in zip(told[1], rows)))
            self.assertTrue(all(low <= told[1].count(v) <= high for v, low, high in triples))
            return "placed"
        word, values, lot = told
        self.assertEqual(list(values), sorted(set(values)))
        self.assertEqual(list(lot), sorted(set(lot)))
        self.assertTrue(all(k in range(len(rows)) for k in lot))
        if () in rows:
            self.assertEqual((word, values), ("high", ()))
            self.assertTrue(lot != () and all(rows[k] == () for k in lot))
        elif word == "high":
            self.assertTrue(all(v in highs for v in values))
            self.assertTrue(all(v in values for k in lot for v in rows[k]))
            self.assertGreater(len(lot), sum(highs[v] for v in values))
        else:
            self.assertEqual(word, "low")
            self.assertTrue(all(v in lows for v in values))
            self.assertEqual(lot, tuple(k for k, row in enumerate(rows) if any(v in row for v in values)))
            self.assertGreater(sum(lows[v] for v in values), len(lot))
        return word

    def test_low_and_high_at_their_edges(self):
        rows = ((1, 2), (1, 2), (1, 2))
        self.assertEqual(self.check(rows, ((1, 3, 3),)), "placed")
        self.assertEqual(placed(rows, ((1, 3, 3),)), ("placed", (1, 1, 1)))
        self.assertEqual(placed(rows, ((1, 0, 0),)), ("placed", (2, 2, 2)))
        self.assertEqual(placed(rows, ((1, 4, 4),)), ("low", (1,), (0, 1, 2)))
        self.assertEqual(placed(rows, ((1, 0, 0), (2, 0, 2))), ("high", (1, 2), (0, 1, 2)))
        self.assertEqual(self.check(rows, ((1, 0, 1), (2, 0, 2))), "placed")
        self.assertEqual(placed(rows, ((1, 2, 3), (2, 2, 3))), ("low", (1, 2), (0, 1, 2)))
        self.assertEqual(placed(rows=((1,), (1,), (2,)), triples=((1, 0, 1),)), ("high", (1,), (0, 1)))

    def test_values_that_no_triple_names(self):
        self.assertEqual(self.check(((7,), (7,), (7, 8)), ((8, 0, 0),)), "placed")
        self.assertEqual(self.check(((7,), (7,), (7, 8)), ((8, 1, 12),)), "placed")
        self.assertEqual(placed(((7,), (7,), (7,)), ((8, 1, 12),)), ("low", (8,), ()))

    def test_an_empty_row(self):
        self.assertEqual(placed(((1,), (), (2,)), ((1, 0, 0),)), ("high", (), (1,)))
        self.assertEqual(self.check(((), (1,), ()), ((1, 1, 1),)), "high")
        self.assertEqual(self.check(((), (1,), ()), ((1, 5, 5),)), "high")

    def test_both_together(self):
        # 1 can come twice, and 2 twice, but there are three rows with 1 or 2
        rows = ((1, 2), (1, 2), (1, 2), (3,))
        self.assertEqual(placed(rows, ((1, 2, 3), (2, 2, 3), (3, 0, 1))), ("low", (1, 2), (0, 1, 2)))
        # the low of 3 takes a row that 1 has to give up
        self.assertEqual(self.check(((1, 3), (1, 2), (2,)), ((1, 1, 1), (3, 1, 1))), "placed")

    def test_by_chance(self):
        chance = random.Random(25)
        words = {}
        for _ in range(3000):
            rows, triples = rows_by(chance), triples_by(chance)
            word = self.check(rows, triples)
            self.assertEqual(word == "placed", placings(rows, triples) != [], (rows, triples))
            words[word] = words.get(word, 0) + 1
        self.assertEqual(sorted(words), ["high", "low", "placed"])
        self.assertGreater(min(words.values()), 200)

    def test_great_ones(self):
        chance = random.Random(26)
        for _ in range(200):
            rows = tuple(tuple(sorted(chance.sample(range(12), chance.randint(1, 12)))) for _ in range(24))
            lows = [chance.choice((0, 1, 2)) for _ in range(12)]
            self.check(rows, tuple((v, lows[v], min(12, lows[v] + chance.choice((0, 1, 2)))) for v in range(12)))
