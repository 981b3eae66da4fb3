"""Drafts of papers: steps that are put one behind the other, with their rows."""

from aswritten.judge import NO_HEAD
from aswritten.notation import with_side
from aswritten.papers import beside_row, better_row
from aswritten.reckoning import divided, summed
from aswritten.rows import denial
from aswritten.smalls import small_saying
from aswritten.steps import numbers_in, renumbered

class Draft:
    """Steps that are put one behind the other; they are told by their numbers.

    whys has the steps that tell why values do not stand, by what they were told of.
    """

    def __init__(self, book):
        self.book = book
        self.steps = []
        self.rows = []
        self._numbers = {}
        self.whys = {}
        self._names = {}
        self._places = {}

    def _put(self, step, row):
        self.steps.append(step)
        self.rows.append(row)
        return len(self.steps) - 1

    def given(self, name):
        """Put the given row of this name; like the next ones, this is put once, and its number returned again."""
        step = ("given", name)
        if step not in self._numbers:
            self._numbers[step] = self._put(step, self.book.cited(name))
        return self._numbers[step]

    def listed(self, word, s, row):
        """Put this row, which is one of the sign rows ("sign") or telling rows ("tells") of s."""
        if (word, s) not in self._places:
            self._places[(word, s)] = {one: k for k, one in enumerate(self.book.listed(word, s))}
        return self.given((word, s, self._places[(word, s)][row]))

    def sided(self, side):
        """Put the row that the side is worth at least 0."""
        return self._put(("side", side), (((side, 1),), 0))

    def added(self, pairs):
        """Put the sum of the rows of the pairs (step, m), each m times."""
        step = ("add", tuple(pairs))
        if step not in self._numbers:
            self._numbers[step] = self._put(step, summed(self.rows, pairs))
        return self._numbers[step]

    def divided(self, number, d):
        """Put the row of a step divided by d."""
        step = ("divide", number, d)
        if step not in self._numbers:
            self._numbers[step] = self._put(step, divided(self.rows[number], d))
        return self._numbers[step]

    def told(self, s, sides, needed):
        """Put, of a small saying, that one of the sides holds: of needed, and of as few others as will do."""
        small = small_saying(self.book, s)
        kept = list(sides)
        for side in sides:
            fewer = [other for other in kept if other != side]
            if small.lets(clause(fewer + needed)):
                kept = fewer
        row = clause(kept + needed)
        return self._put(("told", s, row), row)

    def led(self, sides, needed, numbers):
        """Put that one of the sides holds: of needed, and of those others that make the rows of the steps clash.

        The rows are looked at again and again, till one clashes, as one has to.
        """
        looks = Looks(sides + needed)
        while not looks.is_clash:
            before = len(looks.looked)
            for number in numbers:
                looks.look(number, self.rows[number])
                if looks.is_clash:
                    break
            assert len(looks.looked) > before, "no row is left that tells more"
        used_sides, used_numbers = looks.used(self.rows)
        row = clause([side for side in sides if side in used_sides] + needed)
        return self._put(("led", row, used_numbers), row)

    def ruled(self, row, numbers):
        """Put this row: looking at its denial and the rows of the steps, in order, the last one clashes first."""
        return self._put(("led", row, tuple(numbers)), row)

    def named(self, n, row):
        """Put that the name with the number n, which is given here, lets the row hold."""
        self._names[n] = len(self.steps)
        return self._put(("name", n, row), with_side(row, (("name", n), False)))

    def back(self, number):
        """Put that the name given by the step holds if its row does."""
        n, row = self.steps[number][1:]
        return self._put(("back", number), with_side(denial(row), (("name", n), True)))

    def better(self, wishes, filling):
        """Put the row of a step "better", for a head with these wishes and this filling."""
        return self._put(("better",), better_row(self.book.source, wishes, filling))

    def below(self, n, wish, filling):
        """Put the name with the number n for: the wish is less than at the filling."""
        return self.named(n, beside_row(self.book.source, wish, filling))

    def beside(self, i, ns):
        """Put that one of the names with the numbers ns, which compare with the filling i of the head, holds."""
        names = tuple([("name", n) for n in ns])
        return self._put(("beside", i, names), clause([(name, True) for name in names]))

    def paper(self, number):
        """Return the pair of the row of a step and the paper of this step and of those that it uses."""
        return (self.rows[number], (NO_HEAD, self.steps_to(number)))

    def steps_to(self, number):
        """Return the tuple of this step and of those that it uses, numbered anew."""
        kept = {number: True}
        waiting = [number]
        while waiting:
            used = self._used_by(waiting.pop())
            waiting.extend([other for other in used if other not in kept])
            kept.update({other: True for other in used})
        anew = {old: place for place, old in enumerate(sorted(kept))}
        return tuple([renumbered(self.steps[old], anew) for old in sorted(kept)])

    def _used_by(self, number):
        names = []
        if self._names:
            names = [self._names[sign[1]] for (sign, worth), c in self.rows[number][0] if sign[0] == "name"]
        return [other for other in numbers_in(self.steps[number]) + names if other != number]


def clause(sides):
    """Return the row that says that one of the sides, no two of them of one sign, holds; a side may come twice."""
    return (tuple([(side, 1) for side in sorted({one: True for one in sides})]), 1)


class Looks:
    """Rows that are looked at where some sides do not hold, with what each one settles.

    causes has for each settled sign the place of the look that settled it, -1 for those of the sides.
    """

    def __init__(self, sides):
        self.settled = {sign: not worth for sign, worth in sides}
        self.causes = {sign: -1 for sign, worth in sides}
        self.looked = []
        self.is_clash = False

    def look(self, number, row):
        """Look at the row of a step; it is kept in looked if it settles something or clashes."""
        parts, least = row
        slack = sum([c for (sign, worth), c in parts if self.settled.get(sign, worth) == worth]) - least
        new = [(sign, worth) for (sign, worth), c in parts if c > slack and sign not in self.settled]
        self.is_clash = slack < 0
        if self.is_clash or new != []:
            self.looked.append(number)
        if not self.is_clash:
            for sign, worth in new:
                self.settled[sign] = worth
                self.causes[sign] = len(self.looked) - 1

    def used(self, rows):
        """Return the sides that the clash goes back to, as keys, and the tuple of the steps that it needs."""
        sides = {}
        needed = {len(self.looked) - 1: True}
        for place in reversed(range(len(self.looked))):
            if place in needed:
                for (sign, worth), c in rows[self.looked[place]][0]:
                    cause = self.causes.get(sign, place)
                    if self.settled.get(sign, worth) != worth and cause < place:
                        needed[cause] = True
                        sides[(sign, worth)] = True
        return self._base_of(sides), tuple([self.looked[place] for place in sorted(needed) if place >= 0])

    def _base_of(self, sides):
        return {side: True for side in sides if self.causes[side[0]] == -1}
