"""Cases: a value that does not stand in a saying, with the steps by which this is drawn from given rows."""

from aswritten.notation import implied, with_side
from aswritten.sayings import own_names


class Case:
    """The value v of x, which is left, but does not stand in the saying s, or in its inner saying.

    all_lefts has the values left; lefts has v alone for x. gone has the sides (sign, True) of the values that are
    gone, goal the side (sign, False) of v, and front the sides (sign, False) of the claim, for an inner saying, and
    of what a soft saying is called when it is kept.
    What is sought are steps whose rows clash, looked at one by one, where none of these sides holds.
    """

    def __init__(self, draft, s, saying, lefts, x, v):
        self.draft = draft
        self.domains = draft.book.domains
        self.s = s
        self.saying = saying
        self.x = x
        self.v = v
        self.all_lefts = lefts
        self.lefts = {y: (v,) if y == x else values for y, values in lefts.items()}
        self.gone = gone_sides(self.domains, own_names(saying), lefts)
        self.goal = (("is", x, v), False)
        self.front = [] if draft.book.sayings[s] == saying else [(("if", s), False)]
        if s in draft.book.soft:
            self.front.append((("kept", s), False))

    def one(self, y, k):
        """Return the step: at least one (k 0), or at most one (k 1), of the values of y is taken."""
        return self.draft.given(("one", y, k))

    def telling(self, row):
        """Return the step of this telling row of the saying."""
        for side in self.front:
            row = with_side(row, side)
        return self.draft.listed("tells", self.s, row)

    def telling_if(self, fronts, behinds):
        """Return a list of the step of this telling row, [] if it is left out."""
        return [self.telling(row) for row in implied(fronts, behinds)]

    def sign_if(self, fronts, behinds):
        """Return a list of the step of this sign row, [] if it is left out."""
        return [self.draft.listed("sign", self.s, row) for row in implied(fronts, behinds)]

    def stand(self, k, q):
        """Return the sign of this stand or place."""
        return ("stand", self.s, k, q)

    def taken(self, y, u):
        """Return the steps that settle the from-signs of y where its value is u."""
        below = [w for w in self.domains[y][1:-1] if w < u]
        below.reverse()
        above = [w for w in self.domains[y][1:-1] if w > u]
        return [self.draft.given(("part", y, u, 1))] + [self.draft.given(("chain", y, w)) for w in below + above]

    def ends(self, y):
        """Return the steps that settle the from-signs of y up to its least value left, and behind the greatest."""
        if y == self.x:
            return self.taken(y, self.v)
        return end_steps(self.draft, y, self.lefts[y])

    def led(self, sides, numbers):
        """Put that one of these sides or of those of the case holds, by looking at the rows of the steps."""
        return self.draft.led(sides + self.gone + self.front + [self.goal], [], numbers)


def end_steps(draft, y, values):
    """Return the steps that settle the from-signs of y up to the least of the values left, and behind the greatest."""
    below = [u for u in draft.book.domains[y] if u < values[0]]
    above = [u for u in draft.book.domains[y] if u > values[-1]]
    above.reverse()
    return [draft.given(("part", y, u, 0)) for u in below + above]


def gone_sides(domains, names, lefts):
    """Return the sides that hold where one of the names has a value that is not left."""
    return [(("is", y, w), True) for y in names for w in domains[y] if w not in lefts[y]]
