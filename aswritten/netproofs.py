"""Papers about webs: that fillings go through them, and that what goes through them keeps a row."""

from aswritten.cases import gone_sides
from aswritten.goals import RowGoal
from aswritten.notation import at_most, implied


class Net:
    """A web s over names, which has nodes, with steps for its rows in a draft."""

    def __init__(self, draft, s, names, web):
        self.draft = draft
        self.names = names
        self.web = web
        self._s = s
        self.end = self.stand_sign(len(names), 0)
        self._befores = {}
        self._somes = {}
        self._lefts = {}

    def stand_sign(self, k, j):
        """Return the sign: behind k values one is at the node j."""
        return ("stand", self._s, k, j)

    def rule(self, fronts, behinds):
        """Return the step of this sign row."""
        return self.draft.listed("sign", self._s, implied(fronts, behinds)[0])

    def went(self, k, j, v, u):
        """Return the step: from the node j of the level k, one goes by v to the node u."""
        return self.rule([self.stand_sign(k, j), ("is", self.names[k], v)], [self.stand_sign(k + 1, u)])

    def _came(self, k, v, u):
        # at u behind k + 1 values, the last one v, one was at a node from which v leads there
        befores = [self.stand_sign(k, j) for j, node in enumerate(self.web[k]) if (v, u) in node]
        return self.rule([self.stand_sign(k + 1, u), ("is", self.names[k], v)], befores)

    def _before_step(self, k, u):
        # at u behind k + 1 values, one was at a node of the level k
        if (k, u) not in self._befores:
            numbers = [self._came(k, v, u) for v in self.draft.book.domains[self.names[k]]]
            sides = [(self.stand_sign(k + 1, u), False)]
            sides.extend([(self.stand_sign(k, j), True) for j in range(len(self.web[k]))])
            self._befores[(k, u)] = self.draft.led(sides, [], numbers + [self.draft.given(("one", self.names[k], 0))])
        return self._befores[(k, u)]

    def _some_step(self, k):
        # who comes to the end was at a node of the level k
        if k == len(self.names) - 1:
            return self._before_step(k, 0)
        if k not in self._somes:
            sides = [(self.stand_sign(k, j), True) for j in range(len(self.web[k]))]
            numbers = [self._before_step(k, u) for u in range(len(self.web[k + 1]))]
            self._somes[k] = self.draft.led(sides, [(self.end, False)], numbers + [self._some_step(k + 1)])
        return self._somes[k]

    def left(self, k, v):
        """Return the step: who comes to the end, and has v as value number k, was at a node from which v leads on."""
        if (k, v) not in self._lefts:
            numbers = [self._came(k, v, u) for u in range(len(self.web[k + 1]))]
            if k + 1 < len(self.names):
                numbers.append(self._some_step(k + 1))
            sides = [(("is", self.names[k], v), False), (self.end, False)]
            sides.extend([(stand, True) for stand in self._stands_with(k, v)])
            self._lefts[(k, v)] = self.draft.led(sides, [], numbers)
        return self._lefts[(k, v)]

    def _stands_with(self, k, v):
        return [self.stand_sign(k, j) for j, node in enumerate(self.web[k]) if v in [w for w, u in node]]

    def one_stand(self, k):
        """Return a list of the step that one is at one node of the level k at most, [] for the first level."""
        if k == 0:
            return []
        row = at_most([(self.stand_sign(k, j), 1) for j in range(len(self.web[k]))], 1)
        return [self.draft.listed("sign", self._s, row)]


class EndGoal:
    """All fillings are to go through a net."""

    def __init__(self, net):
        self.sides = [(net.end, True)]
        self._net = net

    def met(self, lefts):
        """Return a step that one comes to the end, or takes a value that is gone, where each name has one left."""
        net = self._net
        if any([len(lefts[x]) > 1 for x in net.names]):
            return None
        numbers = [net.draft.given(("one", x, 0)) for x in net.names] + [net.rule([], [net.stand_sign(0, 0)])]
        j = 0
        for k, x in enumerate(net.names):
            v = lefts[x][0]
            u = {w: behind for w, behind in net.web[k][j]}[v]
            numbers.append(net.went(k, j, v, u))
            j = u
        return net.draft.led(gone_sides(net.draft.book.domains, net.names, lefts) + self.sides, [], numbers)


class Walk:
    """Going through a net, node by node, to see that a row holds for all that comes to the end."""

    def __init__(self, net, n, row):
        self._net = net
        self._goal = RowGoal(net.draft, n, row)
        self._sides = self._goal.sides + [(net.end, False)]
        self._known = {}

    def told(self):
        """Put the row with the further part that the end is not met, its c the least of the row."""
        draft = self._net.draft
        begin = self._net.rule([], [self._net.stand_sign(0, 0)])
        number = draft.led(self._sides, [], [begin, self._step(0, 0, {})])
        return self._goal.told_beside(number, (self._net.end, False))

    def _step(self, k, j, taken):
        # the clause: one is not at this node, or a value taken so far is not taken, or the end is not met, or the name
        chosen = [(("is", x, v), False) for x, v in taken.items()]
        for sides, number in self._known.get((k, j), []):
            if all([side in chosen for side in sides]):
                return number
        number = self._met(taken, chosen)
        if number is None:
            number = self._gone_on(k, j, taken, chosen)
        sides = [side for side, c in self._net.draft.rows[number][0] if side in chosen]
        self._known.setdefault((k, j), []).append((sides, number))
        return number

    def _met(self, taken, chosen):
        draft = self._net.draft
        lefts = {x: (taken[x],) if x in taken else domain for x, domain in draft.book.domains.items()}
        number = self._goal.met(lefts)
        if number is None:
            return None
        singles = [draft.given(("one", x, 1)) for x in taken]
        return draft.led(chosen + self._sides, [], singles + [number])

    def _gone_on(self, k, j, taken, chosen):
        net = self._net
        x = net.names[k]
        here = [(net.stand_sign(k, j), False)]
        nexts = {v: u for v, u in net.web[k][j]}
        numbers = net.one_stand(k)
        for v in net.draft.book.domains[x]:
            if v in nexts:
                behind = self._step(k + 1, nexts[v], {**taken, x: v})
                went = net.went(k, j, v, nexts[v])
                sides = here + chosen + [(("is", x, v), False)] + self._sides
                numbers.append(net.draft.led(sides, [], [went, behind]))
            else:
                numbers.append(net.left(k, v))
        return net.draft.led(here + chosen + self._sides, [], numbers + [net.draft.given(("one", x, 0))])
