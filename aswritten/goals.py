"""Goals of proofs: rows that surely hold where some values are left."""

from aswritten.cases import end_steps, gone_sides
from aswritten.rows import denial
from aswritten.sayings import own_names
from aswritten.signs import is_sign_true
from aswritten.standing import Said
from aswritten.whys import why_step


class NoGoal:
    """What is never met: all visits end where values are struck out."""

    def __init__(self):
        self.sides = []

    def met(self, lefts):
        """Return None."""
        return None


class RowGoal:
    """A row is to hold; the name with the number n, which is given for it, is told."""

    def __init__(self, draft, n, row):
        self._view = View(draft)
        self._draft = draft
        self._row = row
        self._name = draft.named(n, row)
        self._back = draft.back(self._name)
        self.sides = [(("name", n), True)]

    def met(self, lefts):
        """Return a step of the name and of values that are gone if the row surely holds with these, or None."""
        if not self._view.is_sure(self._row, lefts):
            return None
        return self._view.led([self._row], lefts, self.sides, [self._back])

    def told(self, number):
        """Put the row, where the step tells its name."""
        return self._draft.added([(self._name, 1), (number, self._row[1])])


    def told_beside(self, number, side):
        """Put the row with this further side, its c the least, where the step tells that its name or the side holds."""
        least = self._row[1]
        pairs = [(self._name, 1), (number, least)]
        if (side, 1) not in self._draft.rows[number][0]:
            pairs.append((self._draft.sided(side), least))
        return self._draft.added(pairs)


class BesideGoal:
    """Each filling is to be nowhere less than some one of the fillings of a head."""

    def __init__(self, draft, wishes, fillings):
        self._view = View(draft)
        self._lots = []
        self.sides = []
        for i, filling in enumerate(fillings):
            ns = [i * len(wishes) + j for j in range(len(wishes))]
            numbers = [draft.below(n, wish, filling) for n, wish in zip(ns, wishes)]
            rows = [denial(draft.steps[number][2]) for number in numbers]
            self._lots.append((rows, numbers + [draft.beside(i, ns)]))

    def met(self, lefts):
        """Return a step of values that are gone if with these all is nowhere less than some one, or None."""
        for rows, numbers in self._lots:
            if all([self._view.is_sure(row, lefts) for row in rows]):
                return self._view.led(rows, lefts, [], numbers)
        return None


class View:
    """What is known of signs by the values that are left."""

    def __init__(self, draft):
        self._draft = draft
        self._book = draft.book
        self._saids = {}
        self._broken = {}

    def is_sure(self, row, lefts):
        """Tell whether the row holds by what is known of its signs."""
        parts, least = row
        return sum([c for (sign, worth), c in parts if self._truth(sign, lefts) == worth]) >= least

    def _truth(self, sign, lefts):
        # None where it is not known
        word, name = sign[:2]
        if word == "from":
            if lefts[name][0] >= sign[2]:
                return True
            return False if lefts[name][-1] < sign[2] else None
        if word == "is":
            if sign[2] not in lefts[name]:
                return False
            return True if len(lefts[name]) == 1 else None
        if word == "kept":
            return None if self._broken_step(name, lefts) is None else False
        names = own_names(self._book.sayings[name])
        if any([len(lefts[x]) > 1 for x in names]):
            return None
        return is_sign_true(self._book.sayings, sign, {x: lefts[x][0] for x in names})

    def _broken_step(self, s, lefts):
        # the step that the soft saying s is not kept, or some value is taken that is gone; None if it may hold
        if s not in self._saids:
            self._saids[s] = Said(self._book.domains, self._book.sayings[s])
        key = (s,) + tuple([lefts[x] for x in self._saids[s].names])
        if key not in self._broken:
            self._broken[key] = self._put_broken(s, lefts)
        return self._broken[key]

    def _put_broken(self, s, lefts):
        said = self._saids[s]
        empty = [x for x, values in said.standing(lefts).items() if values == ()]
        if empty == []:
            return None
        x = empty[0]
        numbers = [why_step(self._draft, s, lefts, x, v) for v in lefts[x]] + [self._draft.given(("one", x, 0))]
        return self._draft.led(gone_sides(self._book.domains, said.names, lefts), [(("kept", s), False)], numbers)

    def led(self, rows, lefts, sides, numbers):
        """Put that a value is taken that is gone, or one of the sides holds, by what is known and by the steps."""
        signs = {sign: True for parts, least in rows for (sign, worth), c in parts}
        names = {}
        sayings = {}
        known = []
        for sign in [one for one in signs if self._truth(one, lefts) is not None]:
            if sign[0] in ("from", "is"):
                names[sign[1]] = True
            else:
                names.update({x: True for x in own_names(self._book.sayings[sign[1]])})
            if sign[0] == "kept":
                known.append(self._broken_step(sign[1], lefts))
            elif sign[0] in ("row", "stand", "even", "if"):
                sayings[sign[1]] = True
        ends = [number for x in names for number in self._values_known(x, lefts[x])]
        told = [number for s in sayings for number in self._signs_known(s, lefts)]
        gone = gone_sides(self._book.domains, list(names), lefts)
        return self._draft.led(gone + sides, [], ends + known + told + numbers)

    def _values_known(self, x, values):
        single = [self._draft.given(("one", x, 0))] if len(values) == 1 else []
        return single + end_steps(self._draft, x, values)

    def _signs_known(self, s, lefts):
        numbers = []
        for k, (parts, least) in enumerate(self._book.listed("sign", s)):
            # rows that hold by the values alone tell nothing
            if not any([sign[0] == "is" and self._truth(sign, lefts) == worth for (sign, worth), c in parts]):
                numbers.append(self._draft.given(("sign", s, k)))
        return numbers
