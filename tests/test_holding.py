"""[5], [6]: in which fillings the sayings of each kind hold."""

import itertools
import unittest

from aswritten.models import check_model, keeps, keeps_saying
from tests.samples import SAYINGS, SMALL_UNKNOWNS, model_with, model_with_soft


# For each kind once more what the document says, in other words than the package does.

def least_of(saying, at):
    total = 0
    for x, weight in saying[1]:
        total += weight * at[x]
    return not total < saying[2]


def same_of(saying, at):
    turned = ("least", tuple((x, -weight) for x, weight in saying[1]), -saying[2])
    return least_of(saying, at) and least_of(turned, at)


def unlike_of(saying, at):
    return not any(at[x] == at[y] for x, y in itertools.combinations(saying[1], 2))


def counts_of(saying, at):
    for v, low, high in saying[2]:
        number = sum(1 for x in saying[1] if at[x] == v)
        if number < low or number > high:
            return False
    return True


def table_of(saying, at):
    return any(all(at[x] == v for x, v in zip(saying[1], row)) for row in saying[2])


def bar_of(saying, at):
    return all(any(at[x] != v for x, v in zip(saying[1], row)) for row in saying[2])


def pick_of(saying, at):
    return any(at[saying[1]] == p and at[x] == at[saying[3]] for p, x in enumerate(saying[2]))


def top_of(saying, at):
    values = [at[x] for x in saying[1]]
    return at[saying[2]] in values and all(v <= at[saying[2]] for v in values)


def product_of(saying, at):
    return at[saying[3]] - at[saying[1]] * at[saying[2]] == 0


def ahead_of(saying, at):
    for x, y in zip(saying[1], saying[2]):
        if at[x] != at[y]:
            return at[x] < at[y]
    return True


def machine_of(saying, at):
    stands = [saying[2]]
    for x in saying[1]:
        stands = [u for q, v, u in saying[3] if q in stands and v == at[x]]
    return any(stand in saying[4] for stand in stands)


def works_of(saying, at):
    for t in range(-300, 300):
        total = 0
        for x, length, need in zip(saying[1], saying[2], saying[3]):
            if t in range(at[x], at[x] + length):
                total += need
        if total > saying[4]:
            return False
    return True


def round_of(saying, at):
    many = len(saying[1])
    if any(at[x] not in range(many) for x in saying[1]):
        return False
    met = [0]
    for _ in range(many):
        met.append(at[saying[1][met[-1]]])
    return met[-1] == 0 and sorted(met[1:]) == list(range(many))


def claim_of(claim, at):
    word, *rest = claim
    if word == "from":
        return not at[rest[0]] < rest[1]
    if word == "is":
        return not at[rest[0]] != rest[1]
    if word == "not":
        return not claim_of(rest[0], at)
    falses = [part for part in rest[0] if not claim_of(part, at)]
    return len(falses) == 0 if word == "and" else len(falses) < len(rest[0])


def saying_of(saying, at):
    if saying[0] == "claim":
        return claim_of(saying[1], at)
    if saying[0] == "when":
        return saying_of(saying[2], at) if claim_of(saying[1], at) else True
    return globals()[saying[0] + "_of"](saying, at)


def names_in(value):
    """All names of SMALL_UNKNOWNS that stand in value."""
    if isinstance(value, str):
        return [value] if len(value) == 1 else []
    if isinstance(value, tuple):
        return sorted({name for item in value for name in names_in(item)})
    return []


MORE = (
    ("least", (("a", 100), ("b", -100), ("c", 7)), 7), ("same", (("a", -5), ("b", 10)), 0),
    ("least", (("a", -1),), -1), ("same", (("d", 3),), 4), ("unlike", ("a", "b", "c", "d")), ("unlike", ("a",)),
    ("counts", ("a", "b"), ((7, 1, 2),)), ("counts", ("a", "b"), ((0, 2, 12), (2, 0, 0))),
    ("counts", ("a", "b", "c", "d"), ((-1, 1, 1), (0, 1, 2), (2, 0, 3))), ("counts", ("a",), ((1, 2, 2),)),
    ("table", ("a", "b"), ()), ("bar", ("a", "b"), ()), ("table", ("b",), ((9,),)), ("bar", ("b",), ((9,),)),
    ("table", ("c", "a"), ((-1, 0), (0, 2), (2, 2), (2, 99))), ("pick", "c", ("a", "b", "d"), "e"),
    ("pick", "a", ("b",), "c"), ("top", ("a", "b", "d"), "c"), ("top", ("a",), "b"), ("product", "c", "a", "b"),
    ("ahead", ("a",), ("b",)), ("ahead", ("c", "a"), ("b", "d")), ("machine", ("a", "b"), 5, (), ()),
    ("machine", ("a", "b"), 5, (), (5,)), ("machine", ("a",), 5, ((5, 1, 5),), ()),
    ("machine", ("b", "a"), 11, ((0, 2, 11), (11, -1, 0), (11, 0, 0), (11, 1, 11)), (11,)),
    ("works", ("a", "b"), (1, 1), (3, 3), 3), ("works", ("a", "b", "d"), (2, 3, 1), (1, 0, 2), 2),
    ("works", ("a",), (50,), (1,), 0), ("works", ("a",), (1,), (0,), 0), ("works", ("a", "b"), (1, 1), (2, 3), 4),
    ("round", ("a",)), ("round", ("b", "a")), ("round", ("a", "b", "c", "d")), ("claim", ("not", ("from", "a", 2))),
    ("claim", ("or", (("and", (("is", "a", 0), ("is", "b", 1))), ("from", "c", 2)))),
    ("claim", ("and", (("or", ()), ("is", "a", 0)))), ("claim", ("or", (("and", ()), ("is", "a", 0)))),
    ("claim", ("is", "a", 77)), ("claim", ("from", "a", -77)), ("claim", ("from", "a", 77)),
    ("when", ("from", "c", 1), ("same", (("a", 1), ("b", 1)), 2)), ("when", ("is", "b", 9), ("table", ("a",), ())),
    ("when", ("not", ("is", "b", 9)), ("bar", ("a", "b"), ((1, 1),))),
    ("when", ("or", (("is", "a", 0), ("is", "b", 0))), ("claim", ("is", "c", 2))),
)

NUMBERED = tuple((name, domain) for name, domain in zip("abcde", (
    (-1, 0, 1, 2, 3), (-2, 0, 1, 2), (-200, 0, 1, 2, 4), (0, 1, 2, 3), (-1, 0, 2))))


class AgainstTheDocument(unittest.TestCase):
    def compare(self, saying, unknowns):
        names = names_in(saying[1:])
        unknowns = tuple(item for item in unknowns if item[0] in names)
        firm, soft = model_with(saying, unknowns), model_with_soft(saying, unknowns)
        self.assertIsNone(check_model(firm))
        for filling in itertools.product(*(domain for name, domain in unknowns)):
            at = dict(zip((name for name, domain in unknowns), filling))
            told = saying_of(saying, at)
            self.assertIs(keeps_saying(firm, "said", filling), told, (saying, filling))
            self.assertIs(keeps_saying(soft, "said", filling), told, (saying, filling))
            self.assertIs(keeps(firm, filling), told, (saying, filling))
            self.assertIs(keeps(soft, filling), True)

    def test_a_saying_of_each_kind(self):
        for saying in (*SAYINGS.values(), *MORE):
            with self.subTest(saying):
                self.compare(saying, SMALL_UNKNOWNS)

    def test_with_values_below_0_and_beyond_the_last_place(self):
        for saying in (*SAYINGS.values(), *MORE):
            with self.subTest(saying):
                self.compare(saying, NUMBERED)

    def test_each_kind_within_a_when(self):
        for saying in SAYINGS.values():
            if saying[0] != "when":
                with self.subTest(saying):
                    self.compare(("when", ("from", "b", 1), saying), NUMBERED)


def told(saying, **values):
    unknowns = tuple((name, tuple(sorted({values[name], 7, -3}))) for name in sorted(values))
    return keeps_saying(model_with(saying, unknowns), "said", tuple(values[name] for name in sorted(values)))


class SingleFillings(unittest.TestCase):
    def test_least_and_same(self):
        terms = (("b", -2), ("a", 3))
        self.assertTrue(told(("least", terms, -9), a=-1, b=3))
        self.assertFalse(told(("least", terms, -8), a=-1, b=3))
        self.assertTrue(told(("same", terms, -9), a=-1, b=3))
        self.assertFalse(told(("same", terms, -8), a=-1, b=3))
        self.assertFalse(told(("same", terms, -10), a=-1, b=3))
        self.assertTrue(told(("least", (("a", 100),), 20000), a=200))

    def test_unlike(self):
        self.assertTrue(told(("unlike", ("a", "b", "c")), a=1, b=-1, c=0))
        self.assertFalse(told(("unlike", ("a", "b", "c")), a=1, b=-1, c=1))

    def test_counts(self):
        counts = ("counts", ("a", "b", "c"), ((-1, 1, 2), (5, 0, 0)))
        self.assertTrue(told(counts, a=-1, b=2, c=3))
        self.assertTrue(told(counts, a=-1, b=-1, c=3))
        self.assertFalse(told(counts, a=-1, b=-1, c=-1))
        self.assertFalse(told(counts, a=0, b=1, c=2))
        self.assertFalse(told(counts, a=-1, b=5, c=2))

    def test_table_and_bar_with_values_that_lie_in_no_domain(self):
        rows = ((-200, 200), (1, 2))
        self.assertTrue(told(("table", ("b", "a"), rows), a=2, b=1))
        self.assertFalse(told(("table", ("b", "a"), rows), a=1, b=2))
        self.assertFalse(told(("bar", ("b", "a"), rows), a=2, b=1))
        self.assertTrue(told(("bar", ("b", "a"), rows), a=1, b=2))
        self.assertFalse(told(("table", ("b", "a"), ()), a=1, b=2))
        self.assertTrue(told(("bar", ("b", "a"), ()), a=1, b=2))

    def test_pick(self):
        pick = ("pick", "i", ("a", "b", "c"), "r")
        self.assertTrue(told(pick, i=0, a=4, b=5, c=6, r=4))
        self.assertTrue(told(pick, i=2, a=4, b=5, c=6, r=6))
        self.assertFalse(told(pick, i=2, a=4, b=5, c=6, r=5))
        self.assertFalse(told(pick, i=3, a=4, b=5, c=6, r=6))
        self.assertFalse(told(pick, i=-1, a=4, b=5, c=6, r=6))
        self.assertFalse(told(pick, i=-3, a=4, b=5, c=6, r=4))
        self.assertFalse(told(pick, i=200, a=4, b=5, c=6, r=6))

    def test_top(self):
        self.assertTrue(told(("top", ("a", "b"), "r"), a=-5, b=-4, r=-4))
        self.assertFalse(told(("top", ("a", "b"), "r"), a=-5, b=-4, r=-5))
        self.assertFalse(told(("top", ("a", "b"), "r"), a=-5, b=-4, r=0))

    def test_product(self):
        self.assertTrue(told(("product", "x", "y", "z"), x=-4, y=5, z=-20))
        self.assertTrue(told(("product", "x", "y", "z"), x=-4, y=-5, z=20))
        self.assertFalse(told(("product", "x", "y", "z"), x=-4, y=5, z=20))
        self.assertFalse(told(("product", "x", "y", "z"), x=6, y=2, z=3))

    def test_ahead(self):
        ahead = ("ahead", ("a", "b"), ("c", "d"))
        self.assertTrue(told(ahead, a=1, b=9, c=2, d=0))
        self.assertTrue(told(ahead, a=1, b=2, c=1, d=2))
        self.assertTrue(told(ahead, a=1, b=2, c=1, d=3))
        self.assertFalse(told(ahead, a=1, b=2, c=1, d=1))
        self.assertFalse(told(ahead, a=1, b=2, c=0, d=9))

    def test_machine(self):
        machine = ("machine", ("a", "b"), 3, ((0, 0, 3), (3, -1, 0), (3, 5, 3)), (3,))
        self.assertTrue(told(machine, a=-1, b=0))
        self.assertTrue(told(machine, a=5, b=5))
        self.assertFalse(told(machine, a=5, b=-1))
        self.assertFalse(told(machine, a=-1, b=5))
        self.assertFalse(told(machine, a=1, b=5))
        self.assertFalse(told(machine[:4] + ((),), a=5, b=5))
        self.assertFalse(told(machine[:3] + ((), (3,)), a=5, b=5))

    def test_works(self):
        works = ("works", ("a", "b", "c"), (3, 2, 1), (2, 3, 4), 5)
        self.assertTrue(told(works, a=-3, b=-1, c=1))
        self.assertTrue(told(works, a=-3, b=0, c=2))
        self.assertFalse(told(works, a=-3, b=0, c=1))
        self.assertFalse(told(works, a=-3, b=2, c=-1))
        self.assertTrue(told(works, a=-3, b=2, c=0))
        self.assertTrue(told(("works", ("a", "b"), (50, 1), (1, 1), 1), a=0, b=50))
        self.assertFalse(told(("works", ("a", "b"), (50, 1), (1, 1), 1), a=0, b=49))
        self.assertTrue(told(("works", ("a",), (1,), (0,), 0), a=0))
        self.assertFalse(told(("works", ("a",), (1,), (1,), 0), a=0))

    def test_round(self):
        self.assertTrue(told(("round", ("a", "b", "c")), a=2, b=0, c=1))
        self.assertTrue(told(("round", ("a", "b", "c")), a=1, b=2, c=0))
        self.assertFalse(told(("round", ("a", "b", "c")), a=1, b=0, c=2))
        self.assertFalse(told(("round", ("a", "b", "c")), a=0, b=2, c=1))
        self.assertFalse(told(("round", ("a", "b", "c")), a=1, b=2, c=1))
        self.assertFalse(told(("round", ("a", "b", "c")), a=1, b=2, c=3))
        self.assertFalse(told(("round", ("a", "b", "c")), a=-1, b=0, c=1))
        self.assertFalse(told(("round", ("a", "b", "c")), a=1, b=-1, c=0))
        self.assertFalse(told(("round", ("a", "b", "c")), a=-2, b=-1, c=0))
        self.assertTrue(told(("round", ("a",)), a=0))
        self.assertFalse(told(("round", ("a",)), a=1))
        self.assertFalse(told(("round", ("a",)), a=-1))

    def test_claim(self):
        self.assertTrue(told(("claim", ("from", "a", 3)), a=3))
        self.assertFalse(told(("claim", ("from", "a", 4)), a=3))
        self.assertTrue(told(("claim", ("is", "a", -3)), a=-3))
        self.assertFalse(told(("claim", ("is", "a", -4)), a=-3))
        self.assertTrue(told(("claim", ("and", (("and", ()), ("is", "a", 1)))), a=1))
        self.assertFalse(told(("claim", ("and", (("or", ()), ("is", "a", 1)))), a=1))
        self.assertFalse(told(("claim", ("or", (("or", ()), ("is", "a", 1)))), a=2))
        self.assertTrue(told(("claim", ("or", (("and", ()), ("is", "a", 1)))), a=2))
        self.assertTrue(told(("claim", ("not", ("and", (("is", "a", 2), ("is", "b", 1))))), a=2, b=2))
        self.assertFalse(told(("claim", ("not", ("or", (("is", "a", 2), ("is", "b", 1))))), a=2, b=2))

    def test_when(self):
        when = ("when", ("is", "c", 1), ("unlike", ("a", "b")))
        self.assertTrue(told(when, a=1, b=2, c=1))
        self.assertFalse(told(when, a=1, b=1, c=1))
        self.assertTrue(told(when, a=1, b=1, c=0))
        self.assertTrue(told(when, a=1, b=2, c=0))
        never = ("when", ("is", "a", 1), ("table", ("a",), ()))
        self.assertFalse(told(never, a=1))
        self.assertTrue(told(never, a=2))


class SeveralSayings(unittest.TestCase):
    unknowns = (("b", (0, 1)), ("a", (0, 1, 2)))
    model = (unknowns, (("u", ("unlike", ("a", "b"))), ("l", ("least", (("a", 1),), 1))),
             (("n", ("same", (("b", 1),), 1), 4), ("m", ("unlike", ("a", "b")), 2)))

    def test_values_stand_in_the_order_of_the_unknowns(self):
        self.assertTrue(keeps_saying(self.model, "l", (0, 1)))
        self.assertFalse(keeps_saying(self.model, "l", (1, 0)))

    def test_keeps_asks_all_sayings(self):
        kept = [(b, a) for b in (0, 1) for a in (0, 1, 2) if keeps(self.model, (b, a))]
        self.assertEqual(kept, [(0, 1), (0, 2), (1, 2)])
        self.assertIs(keeps((self.unknowns, (), ()), (0, 0)), True)

    def test_keeps_does_not_ask_soft_sayings(self):
        self.assertIs(keeps_saying(self.model, "n", (0, 1)), False)
        self.assertIs(keeps(self.model, (0, 1)), True)
        softened = (self.unknowns, (), self.model[2])
        self.assertTrue(all(keeps(softened, (b, a)) for b in (0, 1) for a in (0, 1, 2)))

    def test_each_saying_by_its_name(self):
        self.assertEqual([keeps_saying(self.model, name, (1, 1)) for name in "ulnm"], [False, True, True, False])
        self.assertIs(keeps_saying(model=self.model, name="u", filling=(0, 1)), True)
        self.assertIs(keeps(model=self.model, filling=(1, 1)), False)
