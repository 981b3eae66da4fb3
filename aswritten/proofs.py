"""Proofs by plain search: each visit comes to a clause that tells which choices cannot go together."""

from aswritten.goals import NoGoal
from aswritten.visits import is_dead, next_open
from aswritten.whys import lefts_at, why_step


class Gone:
    """A value that is gone: sign is its is-sign, number the step that tells why, None as long as no one asked."""

    def __init__(self, sign, number):
        self.sign = sign
        self.number = number


class Visit:
    """A state that is visited: lefts has the values left behind striking, gone what was struck out."""

    def __init__(self, before, lefts, entries):
        self.before = before
        self.lefts = lefts
        self.entries = entries
        self.gone = [Gone(("is", x, v), None) for x, v, s in entries]

    def empty(self):
        """Return the unknown that has no value left, or None."""
        return self.entries[-1][0] if is_dead(self.lefts, self.entries) else None


class Proof:
    """Visits that end where values are struck out, or where a goal is met.

    goal.met(lefts) returns the step of a clause that one of the values that are gone is taken, or one of the sides
    goal.sides holds, or None. What is proved has such sides alone: a clause of these and of choices undone.
    lefts has the values left at the start, of which those are struck out that do not stand.
    """

    def __init__(self, draft, striker, order, lefts):
        self._draft = draft
        self._striker = striker
        self._order = order
        self._goal = NoGoal()
        now = {x: values for x, values in lefts.items()}
        self._start = Visit(lefts, now, striker.strike_out(now))
        self._visits = {}
        # what is gone so far, and the sides that undo the choices so far; for each thing gone its visit and place
        self._trail = []
        self._chosen = []
        self._put_gone(self._start)

    def proved(self, goal):
        """Return the step of a clause of sides of the goal."""
        self._goal = goal
        return self._clause(self._start)

    def proved_without(self, x, v):
        """Return the step of a clause that x has not the value v, or of a row that clashes."""
        self._goal = NoGoal()
        if self._start.empty() is not None:
            return self._clause(self._start)
        if v in self._start.lefts[x]:
            return self._tried(self._start.lefts, x, v)
        # x is kept from having v by what was struck out
        self._chosen.append((("is", x, v), False))
        place = [gone.sign for gone in self._start.gone].index(("is", x, v))
        number = self._resolved(self._told(self._start, place))
        self._chosen.pop()
        return number

    def _put_gone(self, visit):
        self._trail.extend([(gone, visit, place) for place, gone in enumerate(visit.gone)])

    def _clause(self, visit):
        empty = visit.empty()
        if empty is not None:
            return self._resolved(self._draft.given(("one", empty, 0)))
        met = self._goal.met(visit.lefts)
        if met is not None:
            return self._resolved(met)
        x = next_open(self._order, visit.lefts)
        many = len(self._trail)
        for v in visit.lefts[x]:
            number = self._tried(visit.lefts, x, v)
            if ((("is", x, v), False), 1) not in self._draft.rows[number][0]:
                break
            self._trail.append((Gone(("is", x, v), number), None, 0))
        else:
            number = self._resolved(self._draft.given(("one", x, 0)))
        del self._trail[many:]
        return number

    def _tried(self, lefts, x, v):
        # the clause of the visit with the value v for x
        many = len(self._trail)
        single = self._draft.given(("one", x, 1))
        self._trail.extend([(Gone(("is", x, w), single), None, 0) for w in lefts[x] if w != v])
        self._chosen.append((("is", x, v), False))
        visit = self._visit(lefts, x, v)
        self._put_gone(visit)
        number = self._clause(visit)
        self._chosen.pop()
        del self._trail[many:]
        return number

    def _visit(self, lefts, x, v):
        key = tuple(self._chosen)
        if key not in self._visits:
            before = {y: values for y, values in lefts.items()}
            before[x] = (v,)
            now = {y: values for y, values in before.items()}
            self._visits[key] = Visit(before, now, self._striker.strike_behind(now, x))
        return self._visits[key]

    def _resolved(self, last):
        # why what the last step says to be taken is gone
        rows = self._draft.rows
        needed = _taken(rows[last])
        numbers = [last]
        for gone, visit, place in reversed(self._trail):
            if gone.sign in needed:
                number = gone.number if visit is None else self._told(visit, place)
                needed.update(_taken(rows[number]))
                if number != numbers[-1]:
                    numbers.append(number)
        if len(numbers) == 1:
            return last
        numbers.reverse()
        return self._draft.led(self._chosen + self._goal.sides, [], numbers)

    def _told(self, visit, place):
        gone = visit.gone[place]
        if gone.number is None:
            x, v, s = visit.entries[place]
            lefts = lefts_at(visit.before, visit.entries[:place])
            key = (s, x, v) + tuple([lefts[y] for y in self._striker.saids[s].names])
            whys = self._draft.whys
            if key not in whys:
                whys[key] = why_step(self._draft, s, lefts, x, v)
            gone.number = whys[key]
        return gone.number


def _taken(row):
    # the is-signs of the values of which one is taken, if nothing else holds
    return {sign: True for (sign, worth), c in row[0] if worth and sign[0] == "is"}
