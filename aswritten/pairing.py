"""Rows that are placed at integers of theirs, and lots of rows or integers that show that they cannot be."""


def greatest_pairing(rows):
    """Return a tuple with an integer of each row or None: none comes twice, and as few as possible are None."""
    chosen = [None] * len(rows)
    for k in range(len(rows)):
        _place(rows, {}, 1, chosen, k)
    return tuple(chosen)


def short_lot(rows):
    """Return None if each row can have an integer of its own, otherwise a lot of rows with fewer integers."""
    chosen = [None] * len(rows)
    for k in range(len(rows)):
        full = _place(rows, {}, 1, chosen, k)
        if full is not None:
            return (_lot_of(full, chosen, k), full)
    return None


def placed(rows, triples):
    """Return ("placed", values), or ("high", values, lot) or ("low", values, lot) if there is no placing."""
    empty = tuple([k for k, row in enumerate(rows) if row == ()])
    if empty != ():
        return ("high", (), empty)
    # each time that an integer has to come is a row that has an own one of the numbers of the rows with it
    slots = [v for v, low, high in triples for _ in range(low)]
    having = [tuple([number for number, row in enumerate(rows) if v in row]) for v in slots]
    short = short_lot(having)
    if short is not None:
        return ("low", tuple(sorted(set([slots[k] for k in short[0]]))), short[1])
    chosen = [None] * len(rows)
    for v, k in zip(slots, greatest_pairing(having)):
        chosen[k] = v
    highs = {v: high for v, low, high in triples}
    for k in range(len(rows)):
        full = None if chosen[k] is not None else _place(rows, highs, len(rows), chosen, k)
        if full is not None:
            return ("high", full, _lot_of(full, chosen, k))
    return ("placed", tuple(chosen))


def _place(rows, highs, free, chosen, k):
    # place row k and return None, or return the full integers that it would ask for, directly or through others
    askers = {v: k for v in rows[k]}
    waiting = list(askers)
    done = 0
    while done < len(waiting):
        v = waiting[done]
        done += 1
        holders = [row for row, w in enumerate(chosen) if w == v]
        if len(holders) < highs.get(v, free):
            _hand_on(chosen, askers, v)
            return None
        for row in holders:
            for w in rows[row]:
                if w not in askers:
                    askers[w] = row
                    waiting.append(w)
    return tuple(sorted(askers))


def _hand_on(chosen, askers, v):
    # each row that asks gets the integer that the next one leaves
    while v is not None:
        row = askers[v]
        left = chosen[row]
        chosen[row] = v
        v = left


def _lot_of(full, chosen, k):
    return tuple([row for row, v in enumerate(chosen) if v in full or row == k])


def placeable(rows, triples):
    """Return for each row the tuple of the integers that it has in some placing of all; None if there is no placing."""
    told = placed(rows, triples)
    if told[0] != "placed":
        return None
    befores = Changes(rows, triples, told[1])
    possible = []
    for k, row in enumerate(rows):
        met = befores.leading_to(told[1][k], k)
        possible.append(tuple([v for v in row if v in met]))
    return possible


class Changes:
    """How a placing can be changed: a row may go to another integer, and one integer may come less, one more often.

    None stands for the integers that lose or get one so.
    """

    def __init__(self, rows, triples, chosen):
        times = {v: 0 for row in rows for v in row}
        for v in chosen:
            times[v] += 1
        self.chosen = chosen
        self.having = {v: [] for v in times}
        for k, row in enumerate(rows):
            for v in row:
                self.having[v].append(k)
        lows = {v: low for v, low, high in triples}
        highs = {v: high for v, low, high in triples}
        self.roomy = [v for v in times if times[v] < highs.get(v, len(rows))]
        self.spare = {v: True for v in times if times[v] > lows.get(v, 0)}

    def leading_to(self, goal, k):
        """Return as keys the integers from which a chain of changes without row k ends with one less of goal."""
        met = {goal: True}
        waiting = [goal]
        while waiting:
            v = waiting.pop()
            befores = self.roomy if v is None else self._before(v, k)
            for w in befores:
                if w not in met:
                    met[w] = True
                    waiting.append(w)
        return met

    def _before(self, v, k):
        befores = [self.chosen[row] for row in self.having[v] if row != k]
        return befores + [None] if v in self.spare else befores
