"""Sums over the parts of a model: joined wishes and rows, with what they come to in the fillings of each part."""

from aswritten.books import Book
from aswritten.drafts import Draft
from aswritten.models import values_at
from aswritten.notation import at_least, weighed_terms
from aswritten.partial import dead_part, joined_filling, none_answer, parts_by_whole
from aswritten.signs import is_sign_true
from aswritten.wishes import ranges, worths


def best_answer(model, wishes):
    """Return ("best", worths, filling, paper) with the least best filling, or ("none", paper); by whole."""
    searched = parts_by_whole(model)
    dead = dead_part(searched)
    if dead is not None:
        return none_answer(model, dead)
    filling = best_filling(model, wishes, searched)
    return ("best", worths(model, wishes, filling), filling, best_paper(model, wishes, searched, filling))


def best_filling(model, wishes, searched):
    """Return the least filling of the least worths, where each part has fillings."""
    sayings = all_sayings(model)
    chosen = []
    for part in searched:
        parts = at_least(_joined_pairs(model, wishes, part), 0)[0]
        sums = [row_sum(sayings, parts, at) for at in part.fillings]
        chosen.append(part.fillings[sums.index(min(sums))])
    return joined_filling(model, chosen)


def best_paper(model, wishes, searched, filling):
    """Return the paper that no filling is better than this one."""
    draft = Draft(Book(model))
    numbers = []
    for n, part in enumerate(searched):
        parts = at_least(_joined_pairs(model, wishes, part), 0)[0]
        if parts != ():
            least = row_sum(draft.book.sayings, parts, values_at(model, filling))
            numbers.append(part.row_step(draft, n, (parts, least)))
    numbers.append(draft.better(wishes, filling))
    number = draft.added([(one, 1) for one in numbers])
    return (((), (), wishes, (filling,)), draft.steps_to(number))


def _joined_pairs(model, wishes, part):
    # the terms of the joined wish that are of the part, without its constants
    pairs = []
    for (constant, terms, prices), (low, high) in zip(wishes, ranges(model, wishes)):
        pairs = [(term, c * (high - low + 1)) for term, c in pairs]
        pairs.extend(weighed_terms(part.domains, [(x, w) for x, w in terms if x in part.domains]))
        if prices == 1:
            pairs.extend([(("kept", s), -price) for s, saying, price in part.inside[2]])
    return pairs


def all_sayings(model):
    """Return the dict that has each saying and soft saying under its name."""
    return {item[0]: item[1] for item in model[1] + model[2]}


def row_sum(sayings, parts, at):
    """Return the sum of the c of those sides that are worth 1 at these values."""
    return sum([c for (sign, worth), c in parts if is_sign_true(sayings, sign, at) == worth])
