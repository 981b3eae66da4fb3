"""Papers that are right but for one mark that is not let, with fillings that show what is asked to be wrong."""

from aswritten.notation import at_least
from aswritten.papers import beside_row, better_row, turned_row

NO_HEAD = ((), (), (), ())
ONE = ((("x", (0, 1)),), (), ())
SAID = ((("x", (0, 1)),), (("a", ("least", (("x", 1),), 1)),), ())
TWO = ((("x", (0, 1)), ("y", (0, 1))), (), ())
# x is 0 in the fillings of these heads
LOW = ((0, (("x", 1),), 0),)
HIGH = ((0, (("x", -1),), 0),)
BOTH = ((0, (("x", 1),), 0), (0, (("x", -1),), 0))
# better where x is 1 and y is 0
FIRST = ((0, (("x", -1), ("y", 1)), 0),)
CHANGED = (("x", "y", ((0, 0), (1, 1))), ("y", "x", ((0, 0), (1, 1))))


def forgery(word, mark):
    """Return (model, asked, paper, filling), or None for other words and marks."""
    if word == "none" and mark in ("B", "N"):
        return (ONE, ("none",), _wished_paper(LOW, mark), (0,))
    if word in ("row", "always") and mark in ("B", "N"):
        return (ONE, (word, better_row(ONE, HIGH, (0,))), _wished_paper(HIGH, mark), (0,))
    if word in ("row", "always") and mark == "T":
        row = turned_row(TWO, ("x", "y"), [CHANGED])
        return (TWO, (word, row), ((("x", "y"), (CHANGED,), (), ()), (("turned", (0,)),)), (1, 0))
    if (word, mark) == ("always", "S"):
        row = at_least([(("from", "x", 1), 1)], 1)
        return (SAID, ("always", row), (NO_HEAD, (("given", ("tells", "a", 0)),)), (0,))
    if (word, mark) == ("unbeaten", "B"):
        return (ONE, ("unbeaten", BOTH, ((0, 0),)), _wished_paper(BOTH, "B"), (1,))
    if word in ("best", "unbeaten") and mark == "T":
        told = (0,) if word == "best" else ((0,),)
        return (TWO, (word, FIRST, told), _turned_paper("B" if word == "best" else "N"), (1, 0))
    return None


def _wished_steps(model, wishes, filling, mark):
    # their last row tells that the filling is not good enough, with this mark
    if mark == "B":
        return (("better",),)
    row = beside_row(model, wishes[0], filling)
    return (("name", 0, row), ("beside", 0, (("name", 0),)), ("add", ((0, 1), (1, row[1]))))


def _wished_paper(wishes, mark):
    return (((), (), wishes, ((0,),)), _wished_steps(ONE, wishes, (0,), mark))


def _turned_paper(mark):
    steps = _wished_steps(TWO, FIRST, (0, 0), mark)
    many = len(steps)
    # the is-signs of the row of the exchange are brought to from-signs
    added = ((many - 1, 1), (many, 1), (many + 1, 1), (many + 2, 2))
    steps = steps + (("turned", (0,)), ("given", ("part", "x", 1, 1)), ("given", ("part", "y", 1, 1)), ("add", added))
    return ((("x", "y"), (CHANGED,), FIRST, ((0, 0),)), steps)
