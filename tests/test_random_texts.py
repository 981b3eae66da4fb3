"""[45] to [47]: sums and places made by chance, each written as a text and worked out beside it."""

import itertools
import random
import unittest

from aswritten.errors import BadText
from aswritten.texts import flatten

SETS = {"row": ("a", "b", "c"), "col": ("c", "d")}
DATA = {"cost": ("row",), "gap": ("row", "col")}
UNKNOWNS = {"x": ("row",), "y": ("row", "col"), "z": (), "w": ()}


def numbers_by(chance):
    return {(word, items): chance.randint(-9, 9) for word, sets in DATA.items()
            for items in itertools.product(*[SETS[name] for name in sets])}


def head(numbers):
    lines = [f"set {name}: {' '.join(items)}" for name, items in SETS.items()]
    for word, sets in DATA.items():
        told = [str(numbers[(word, items)]) for items in itertools.product(*[SETS[name] for name in sets])]
        lines.append(f"data {word}({','.join(sets)}): {' '.join(told)}")
    for word, sets in UNKNOWNS.items():
        lines.append(f"unknown {word}{'(' + ', '.join(sets) + ')' if sets else ''}: 0..3")
    return "\n".join(lines)


class Maker:
    """Makes texts with functions that work them out: each takes a dict of the items of variables."""

    def __init__(self, chance, numbers):
        self.chance = chance
        self.numbers = numbers

    def item(self, name, variables):
        """An item of the set, or a variable over it."""
        over = [variable for variable, its in variables.items() if its == name]
        if over and self.chance.random() < 0.8:
            variable = self.chance.choice(over)
            return variable, lambda at: at[variable]
        item = self.chance.choice(SETS[name])
        return item, lambda at: item

    def called(self, words, variables):
        word = self.chance.choice(sorted(words))
        pairs = [self.item(name, variables) for name in words[word]]
        text = word + (f"({', '.join(one for one, get in pairs)})" if pairs else "")
        return text, lambda at: (word, tuple(get(at) for one, get in pairs))

    def number(self, variables, may_be_negative):
        kind = self.chance.randint(0, 2)
        if kind == 0 and variables:
            variable = self.chance.choice(sorted(variables))
            return variable, lambda at: SETS[variables[variable]].index(at[variable])
        if kind == 1:
            text, get = self.called(DATA, variables)
            return text, lambda at: self.numbers[get(at)]
        n = self.chance.randint(-3 if may_be_negative else 0, 5)
        return str(n), lambda at: n

    def places(self, variables, most):
        free = [variable for variable in ("i", "j", "k", "l", "m", "n", "o") if variable not in variables]
        told = {variable: self.chance.choice(sorted(SETS)) for variable in free[:self.chance.randint(1, most)]}
        both = {**variables, **told}
        compares = []
        for _ in range(self.chance.choice((0, 0, 1, 2))):
            left, right = self.number(both, True), self.number(both, True)
            compares.append((left, self.chance.choice(("=", "<", "<=")), right))
        text = ", ".join(f"{variable} in {name}" for variable, name in told.items())
        if compares:
            text += " if " + " and ".join(f"{left[0]} {sign} {right[0]}" for left, sign, right in compares)

        def tuples(at):
            for items in itertools.product(*[SETS[name] for name in told.values()]):
                one = {**at, **dict(zip(told, items))}
                if all(eval(f"{left[1](one)} {'==' if sign == '=' else sign} {right[1](one)}") for left, sign, right in compares):
                    yield one

        return text, both, tuples, len(told)

    def sum(self, variables, left):
        """A text, and what yields pairs (name or None, number) at a dict."""
        texts, parts = [], []
        for k in range(self.chance.randint(1, 3)):
            minus = self.chance.random() < 0.4
            text, get = self.term(variables, left)
            texts.append(("- " if minus else "" if k == 0 else "+ ") + text)
            parts.append((-1 if minus else 1, get))
        return " ".join(texts), lambda at: [(name, factor * n) for factor, get in parts for name, n in get(at)]

    def term(self, variables, left):
        if left > 0 and self.chance.random() < 0.35:
            places, both, tuples, many = self.places(variables, min(left, 2))
            inner, get = self.sum(both, left - many)
            return f"sum {places}: ({inner})", lambda at: [pair for one in tuples(at) for pair in get(one)]
        kind = self.chance.randint(0, 3)
        text, number = self.number(variables, False)
        if kind == 0:
            other, second = self.number(variables, False)
            return f"{text} * {other}", lambda at: [(None, number(at) * second(at))]
        if kind == 1:
            return text, lambda at: [(None, number(at))]
        name, ref = self.called(UNKNOWNS, variables)
        if kind == 2:
            return name, lambda at: [(ref(at), 1)]
        return self.chance.choice((f"{text} * {name}", f"{name} * {text}")), lambda at: [(ref(at), number(at))]


def gathered(pairs):
    weights = {}
    for name, n in pairs:
        if name is not None:
            told = ".".join((name[0],) + name[1])
            weights[told] = weights.get(told, 0) + n
    return tuple((x, w) for x, w in weights.items() if w), sum(n for name, n in pairs if name is None)


class Sums(unittest.TestCase):
    def test_sayings_and_wishes(self):
        chance = random.Random(46)
        right = wrong = 0
        for _ in range(1500):
            numbers = numbers_by(chance)
            maker = Maker(chance, numbers)
            variables, tuples, text = {}, lambda at: [at], "s"
            if chance.random() < 0.5:
                places, variables, tuples, many = maker.places({}, 2)
                text = f"s for {places}"
            (left, get_left), (second, get_second) = maker.sum(variables, 3), maker.sum(variables, 3)
            sign = chance.choice((">=", "<=", "="))
            items, fits = [], True
            for at in tuples({}):
                one, other = get_left(at), get_second(at)
                factor = -1 if sign == "<=" else 1
                terms, n = gathered([(name, factor * m) for name, m in one] + [(name, -factor * m) for name, m in other])
                fits = fits and 1 <= len(terms) <= 12 and all(abs(w) <= 100 for x, w in terms)
                name = ".".join(["s"] + [at[variable] for variable in at])
                items.append((name, ("same" if sign == "=" else "least", terms, -n)))
            lines = f"{head(numbers)}\n{text}: {left} {sign} {second}\nwish {maker.sum({}, 3)[0]}"
            try:
                told = flatten(lines.rsplit("\n", 1)[0])
            except BadText as error:
                self.assertFalse(fits and len(items) <= 40, lines)
                self.assertEqual(error.line, 9)
                wrong += 1
                continue
            self.assertTrue(fits, lines)
            self.assertEqual(told[0][1], tuple(items), lines)
            right += 1
        self.assertGreater(min(right, wrong), 100)

    def test_wishes(self):
        chance = random.Random(47)
        right = 0
        for _ in range(500):
            numbers = numbers_by(chance)
            text, get = Maker(chance, numbers).sum({}, 3)
            terms, constant = gathered(get({}))
            fits = len(terms) <= 12 and all(abs(w) <= 100 for x, w in terms)
            try:
                told = flatten(f"{head(numbers)}\nwish {text}, prices")[1]
            except BadText:
                self.assertFalse(fits, text)
                continue
            self.assertEqual(told, ((constant, tuple(sorted(terms)), 1),))
            right += 1
        self.assertGreater(right, 200)
