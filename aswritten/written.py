"""Lines written out: sayings and wishes for the values of variables.

at has for each variable the pair of its item and the place of this item in its set.
"""

from aswritten.errors import BadText
from aswritten.forms import MOST_NAMES, NUMBER_BOUND


class Writer:
    """Writes out what the line with this number says, in a world."""

    def __init__(self, world, number):
        self._world = world
        self._number = number

    def _bounded(self, n):
        if not -NUMBER_BOUND <= n <= NUMBER_BOUND:
            raise BadText(self._number)
        return n

    def tuples(self, places, at):
        """Return the list of what at is for each tuple of the places, besides what it is."""
        pairs, compares = places
        told = [at]
        for variable, name in pairs:
            items = list(enumerate(self._world.sets[name]))
            told = [{**one, variable: (item, place)} for one in told for place, item in items]
        return [one for one in told if all([self._is_true(compare, one) for compare in compares])]

    def _is_true(self, compare, at):
        left, sign, right = compare
        a, b = self._value(left, at), self._value(right, at)
        if sign == "=":
            return a == b
        return a < b or sign == "<=" and a == b

    def _value(self, amount, at):
        if amount[0] == "number":
            return amount[1]
        if amount[0] == "place":
            return at[amount[1]][1]
        return self._world.numbers[(amount[1], _items_at(amount[2], at))]

    def _name(self, ref, at):
        return ".".join([ref[1], *_items_at(ref[2], at)])

    def _names(self, listed, at):
        return tuple([self._name(ref, one) for ref, one in self._members(listed, at)])

    def _values(self, listed, at):
        return tuple([self._value(amount, one) for amount, one in self._members(listed, at)])

    def _members(self, listed, at):
        members = []
        for places, thing in listed:
            members.extend([(thing, one) for one in ([at] if places is None else self.tuples(places, at))])
            # told at once, as very many could follow; what has no places is left to the check of the saying
            if places is not None and len(members) > MOST_NAMES:
                raise BadText(self._number)
        return members

    def gathered(self, sums, at):
        """Return (constant, terms) of the sum of the pairs (1 or -1, sum), terms of the weight 0 left out."""
        weights = {}
        constant = sum([self._add(weights, sign, whole, at) for sign, whole in sums])
        terms = [(x, self._bounded(w)) for x, w in weights.items() if w != 0]
        return (self._bounded(constant), tuple(terms))

    def _add(self, weights, factor, whole, at):
        # puts the weights of the sum, times 1 or -1, into weights and returns its constant
        constant = 0
        for sign, term in whole:
            if term[0] == "sum":
                for one in self.tuples(term[1], at):
                    constant += self._add(weights, factor * sign, term[2], one)
            else:
                constant += self._add_product(weights, factor * sign, term[1], at)
        return constant

    def _add_product(self, weights, factor, factors, at):
        numbers = [self._value(one, at) for one in factors if one[0] != "ref"]
        names = [self._name(one, at) for one in factors if one[0] == "ref"]
        if len(numbers) == 2:
            return factor * self._bounded(numbers[0] * numbers[1])
        number = factor * numbers[0] if numbers else factor
        if names == []:
            return number
        weights[names[0]] = weights.get(names[0], 0) + number
        return 0

    def saying(self, told, at):
        """Return the saying."""
        word = told[0]
        if word == "sums":
            return self._sums(told, at)
        if word == "claim":
            return (word, self._claim(told[1], at))
        if word == "when":
            return (word, self._claim(told[1], at), self.saying(told[2], at))
        if word == "top":
            return (word, self._names(told[1], at), self._name(told[2], at))
        if word == "pick":
            return (word, self._name(told[1], at), self._names(told[2], at), self._name(told[3], at))
        if word == "product":
            return (word,) + tuple([self._name(ref, at) for ref in told[1:]])
        if word == "ahead":
            return (word, self._names(told[1], at), self._names(told[2], at))
        if word == "works":
            return (word, self._names(told[1], at), self._values(told[2], at), self._values(told[3], at), told[4])
        return ("counts" if word == "count" else word, self._names(told[1], at)) + told[2:]

    def _sums(self, told, at):
        left, sign, right = told[1:]
        factor = -1 if sign == "<=" else 1
        constant, terms = self.gathered([(factor, left), (-factor, right)], at)
        return ("same" if sign == "=" else "least", terms, -constant)

    def _claim(self, told, at):
        word = told[0]
        if word in ("from", "is"):
            return (word, self._name(told[1], at), told[2])
        if word == "not":
            return (word, self._claim(told[1], at))
        return (word, tuple([self._claim(part, at) for part in told[1]]))


def _items_at(items, at):
    return tuple([at[word][0] if is_variable else word for word, is_variable in items])
