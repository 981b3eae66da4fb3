"""Texts that tell models and wishes, and the lines of them that clash."""

from aswritten.errors import TooFar
from aswritten.lines import read_text
from aswritten.lots import MOST_ASKED, least_lots
from aswritten.prints import text_of


def flatten(text):
    """Return (model, wishes, places) of a text; raise BadText with the number of its first wrong line."""
    told = read_text(text)
    return (told.model_told(), told.wished, tuple(sorted(told.places)))


def printed(model, wishes):
    """Return a text that tells this model, with the names u0, s0, t0 and so on, and these wishes."""
    return text_of(model, wishes)


def told_by(places, names):
    """Return the ascending tuple of the numbers of the lines that tell these names."""
    return tuple(sorted(set([number for name, number in places if name in names])))


def line_clashes(text):
    """Return the least clashes in lines, and what has to be given up, as clashes does; raise BadText, then TooFar."""
    model, wishes, places = flatten(text)
    unknowns, sayings, soft = model
    number_of = {name: number for name, number in places}
    asked = tuple(sorted(set([number_of[s] for s, saying in sayings])))
    if len(asked) > MOST_ASKED:
        raise TooFar()
    return least_lots(asked, lambda lot: (unknowns, _told_in(lot, number_of, sayings), soft))


def _told_in(lot, number_of, sayings):
    return tuple([item for item in sayings if number_of[item[0]] in lot])
