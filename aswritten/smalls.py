"""Small sayings: which rows hold wherever they do, by trying all values of their own unknowns.

Sets of tuples of values are integers here: bit number k is set if tuple number k is in the set.
"""

from aswritten.claims import is_true
from aswritten.forms import are_small, tuples_of
from aswritten.holding import holds
from aswritten.sayings import own_names


class SmallSaying:
    """A small saying s: bits has for each sign that may be told of where it holds, kept where the saying does."""

    def __init__(self, domains, s, saying, is_soft):
        names = own_names(saying)
        tuples = tuples_of([domains[x] for x in names])
        places = [{y: w for y, w in zip(names, values)} for values in tuples]
        self.everywhere = _bits([True for at in places])
        self.kept = _bits([holds(saying, at) for at in places])
        self.bits = {}
        for k, x in enumerate(names):
            for v in domains[x]:
                self.bits[("is", x, v)] = _bits([values[k] == v for values in tuples])
            for v in domains[x][1:]:
                self.bits[("from", x, v)] = _bits([values[k] >= v for values in tuples])
        if saying[0] == "when":
            self.bits[("if", s)] = _bits([is_true(saying[1], at) for at in places])
        if is_soft:
            self.bits[("kept", s)] = self.kept
        self.asked = self.everywhere if is_soft else self.kept

    def lets(self, row):
        """Tell whether the row has such signs alone, and holds where the saying does, if it is soft everywhere."""
        parts, least = row
        if not all([sign in self.bits for (sign, worth), c in parts]):
            return False
        sides = [(self.bits[sign] if worth else self.everywhere - self.bits[sign], c) for (sign, worth), c in parts]
        if least == 1:
            return _either(sides) & self.asked == self.asked
        return least == 0 or self._lets_sum(sides, least)

    def _lets_sum(self, sides, least):
        for k in range(self.everywhere.bit_length()):
            if self.asked >> k & 1 and sum([c for bits, c in sides if bits >> k & 1]) < least:
                return False
        return True


def _bits(truths):
    total = 0
    for k, truth in enumerate(truths):
        if truth:
            total += 1 << k
    return total


def _either(sides):
    total = 0
    for bits, c in sides:
        total = total | bits
    return total


def small_saying(book, s):
    """Return the small saying of any name, or None if the model has no small one of it."""
    if type(s) is not str or s not in book.sayings:
        return None
    if s not in book.smalls:
        saying = book.sayings[s]
        is_small = saying[0] != "web" and are_small(book.domains, own_names(saying))
        book.smalls[s] = SmallSaying(book.domains, s, saying, s in book.soft) if is_small else None
    return book.smalls[s]
