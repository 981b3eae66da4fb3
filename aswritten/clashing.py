"""Least lots of sayings that clash, and least lots that have to be given up."""

from aswritten.forms import ascends, is_tuple
from aswritten.judge import judge
from aswritten.lots import least_lots, least_of, lots_of, rest_of
from aswritten.models import keeps
from aswritten.papers import is_filling


def part_model(model, asked, names):
    """Return the model without those asked sayings that are not among names."""
    unknowns, sayings, soft = model
    return (unknowns, tuple([item for item in sayings if item[0] not in asked or item[0] in names]), soft)


def clashes(model, asked):
    """Return the pair of all least clashes, with papers, and all least givings-up, with fillings."""
    return least_lots(asked, lambda lot: part_model(model, asked, lot))


def judge_clashes(model, asked, value):
    """Tell whether any value is a pair of all least clashes and givings-up, with right papers and fillings."""
    if not is_tuple(value, 2, 2) or not all([_are_pairs(asked, pairs) for pairs in value]):
        return False
    lots, others = [[lot for lot, thing in pairs] for pairs in value]
    if others != _least_meeting(asked, lots) or lots != _least_meeting(asked, others):
        return False
    return all([_is_clash(model, asked, pair) for pair in value[0]]) and all(
        [_is_giving(model, asked, pair) for pair in value[1]])


def _are_pairs(asked, value):
    if type(value) is not tuple or not all([is_tuple(pair, 2, 2) and _is_lot(asked, pair[0]) for pair in value]):
        return False
    return ascends([lot for lot, thing in value])


def _is_lot(asked, value):
    if not is_tuple(value, 0, len(asked)) or not all([type(name) is str and name in asked for name in value]):
        return False
    return ascends(value)


def _least_meeting(asked, lots):
    # the least lots that have a name in common with each of these, ascending
    meeting = [lot for lot in lots_of(asked) if all([any([name in lot for name in other]) for other in lots])]
    return sorted(least_of(meeting))


def _is_clash(model, asked, pair):
    lot, paper = pair
    return judge(part_model(model, asked, lot), ("none",), paper)


def _is_giving(model, asked, pair):
    lot, filling = pair
    return is_filling(model, filling) and keeps(part_model(model, asked, rest_of(asked, lot)), filling)


def in_all(lists):
    """Return the ascending tuple of the names that all least clashes have, () if there is no clash."""
    lots = [lot for lot, paper in lists[0]]
    if lots == []:
        return ()
    return tuple([name for name in lots[0] if all([name in lot for lot in lots])])


def in_none(asked, lists):
    """Return the ascending tuple of the asked names that no least clash has."""
    return tuple([name for name in asked if not any([name in lot for lot, paper in lists[0]])])
