"""Plain search: its choices, how far it goes, the parts of a model, and all its fillings."""

from aswritten.errors import TooFar
from aswritten.visits import MOST_FIRST, MOST_WHOLE, filling_at, model_of_part, names_in, parts_of, searched


def plain(model, order):
    """Return the pair of the choices of plain search by the order and its first filling, or None."""
    search = searched(model, order, MOST_FIRST, True)
    if search.is_cut:
        raise TooFar()
    fillings = [filling_at(names_in(model), lefts) for lefts in search.fillings]
    return (tuple(search.choices), fillings[0] if fillings else None)


def first(model):
    """Return the greatest number of choices up to the first filling of a part, at most 401."""
    return max([len(search.choices) for search in _part_searches(model, MOST_FIRST, True)])


def whole(model):
    """Return the greatest number of choices of a search of a part to its end, at most 2001."""
    return max([len(search.choices) for search in _part_searches(model, MOST_WHOLE, False)])


def _part_searches(model, most, is_to_first):
    return [searched(model_of_part(model, part), part, most, is_to_first) for part in parts_of(model)]


def all_of(model):
    """Return the number of choices of a search of the model itself to its end, at most 2001."""
    return len(searched(model, names_in(model), MOST_WHOLE, False).choices)


def parts(model):
    """Return the tuple of the parts, ascending by the places of their first names."""
    return parts_of(model)


def part_model_of(model, part):
    """Return the model of the unknowns of the part, with all sayings and soft sayings that have any of them."""
    return model_of_part(model, part)


def all_fillings(model):
    """Return the ascending tuple of all fillings that keep the model; raise TooFar by all."""
    search = searched(model, names_in(model), MOST_WHOLE, False)
    if search.is_cut:
        raise TooFar()
    return tuple([filling_at(names_in(model), lefts) for lefts in search.fillings])
