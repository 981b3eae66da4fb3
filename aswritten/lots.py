"""Least lots: of what is asked together, which lots clash, and which have to be given up."""

from aswritten.partial import dead_part, joined_filling, none_answer, parts_by_first

MOST_ASKED = 6


def lots_of(asked):
    """Return the list of all lots of an ascending tuple, the lesser ones before those that they are part of."""
    lots = [()]
    for item in asked:
        lots = lots + [lot + (item,) for lot in lots]
    return sorted(lots, key=len)


def are_part(lot, other):
    """Tell whether all of the lot are in the other one."""
    return all([item in other for item in lot])


def least_of(lots):
    """Return the list of those lots of which no other one is a part; the lesser ones stand before the greater."""
    least = []
    for lot in lots:
        if not any([are_part(other, lot) for other in least]):
            least.append(lot)
    return least


def rest_of(asked, lot):
    """Return the tuple of what is asked and not in the lot."""
    return tuple([item for item in asked if item not in lot])


def least_lots(asked, model_of):
    """Return (clashes, givings) as clashes does; model_of(lot) is the model of what a lot has, besides what is firm."""
    answers = {lot: _least_answer(model_of(lot)) for lot in lots_of(asked)}
    clashes = least_of([lot for lot in answers if answers[lot][0] == "none"])
    givings = least_of([lot for lot in lots_of(asked) if answers[rest_of(asked, lot)][0] == "filling"])
    papers = [(lot, none_answer(model_of(lot), answers[lot][1])[1]) for lot in sorted(clashes)]
    fillings = [(lot, answers[rest_of(asked, lot)][1]) for lot in sorted(givings)]
    return (tuple(papers), tuple(fillings))


def _least_answer(model):
    # ("filling", the least one), or ("none", a part without one)
    searched = parts_by_first(model)
    dead = dead_part(searched)
    if dead is not None:
        return ("none", dead)
    return ("filling", joined_filling(model, [part.fillings[0] for part in searched]))
