"""Models that say the same: views between them, papers for that, and what may be added or left out."""

from aswritten.books import Book
from aswritten.errors import UnknownName
from aswritten.forms import is_tuple
from aswritten.judge import is_plainly_taken
from aswritten.models import check_model, keeps_saying
from aswritten.search import all_fillings
from aswritten.views import check_items, direction_paper, filling_seen, joined_model, led_back_rows, lost_filling
from aswritten.views import told_rows


def check_view(one, other, value):
    """Raise BadView if any value is no view of the model other from the model one."""
    check_items(one, other, value)


def seen(one, other, view, filling):
    """Return the filling of other that the view tells for a filling of one."""
    return filling_seen(one, view, filling)


def view_model(one, other, view):
    """Return the model of both models: what one says, the view, and, softly, what other says."""
    return joined_model(one, other, view)


def alike(one, other, there, back):
    """Return ("alike", paper), or ("not", 0 or 1, a filling of one or other that is lost); raise TooFar by all."""
    fillings = all_fillings(one)
    others = all_fillings(other)
    lost = lost_filling(one, other, there, back, fillings)
    if lost is not None:
        return ("not", 0, lost)
    lost = lost_filling(other, one, back, there, others)
    if lost is not None:
        return ("not", 1, lost)
    papers = (direction_paper(one, other, there, back, fillings == ()),
              direction_paper(other, one, back, there, others == ()))
    return ("alike", papers)


def judge_alike(one, other, there, back, value):
    """Tell whether any value is a paper that the models are alike by these views."""
    if not is_tuple(value, 2, 2) or not all([is_tuple(pair, 2, 2) for pair in value]):
        return False
    return _is_taken(one, other, there, back, value[0]) and _is_taken(other, one, back, there, value[1])


def _is_taken(one, other, there, back, pair):
    book = Book(joined_model(one, other, there))
    return _are_taken(book, told_rows(other), pair[0]) and _are_taken(book, led_back_rows(one, back), pair[1])


def _are_taken(book, lists, value):
    if not is_tuple(value, len(lists), len(lists)):
        return False
    if not all([is_tuple(papers, len(rows), len(rows)) for rows, papers in zip(lists, value)]):
        return False
    return all([is_plainly_taken(book, ("row", row), paper)
                for rows, papers in zip(lists, value) for row, paper in zip(rows, papers)])


def added(model, name, saying):
    """Return ("model", the model with this saying), or ("breaks", the least filling that it would take away)."""
    unknowns, sayings, soft = model
    wider = (unknowns, sayings + ((name, saying),), soft)
    check_model(wider)
    return _compared(model, wider, name, wider)


def freed(model, name):
    """Return ("model", the model without this saying), or ("breaks", the least filling that it takes away)."""
    unknowns, sayings, soft = model
    if name not in [item[0] for item in sayings]:
        raise UnknownName(name)
    rest = (unknowns, tuple([item for item in sayings if item[0] != name]), soft)
    return _compared(rest, model, name, rest)


def _compared(less, more, name, told):
    # more has the saying besides all that less has
    for filling in all_fillings(less):
        if not keeps_saying(more, name, filling):
            return ("breaks", filling)
    return ("model", told)
