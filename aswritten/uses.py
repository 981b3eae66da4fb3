"""What papers use of a model, and whether they rest in another one."""

from aswritten.judge import rows_of
from aswritten.models import keeps
from aswritten.sayings import own_names
from aswritten.turns import keeps_model, keeps_wish

SAYING_SIGNS = ("row", "stand", "even", "if", "kept")


def used_names(model, asked, paper):
    """Return (names of unknowns, names of sayings), ascending, of a paper that is taken."""
    order, exchanges, wishes, fillings = paper[0]
    signs = {sign: True for row, marks in rows_of(model, asked, paper) for (sign, worth), c in row[0]}
    sayings = {sign[1]: True for sign in signs if sign[0] in SAYING_SIGNS}
    for step in paper[1]:
        if step[0] == "told":
            sayings[step[1]] = True
        elif step[0] == "given" and step[1][0] in ("sign", "tells"):
            sayings[step[1][1]] = True
    if _have_prices(wishes):
        sayings.update({s: True for s, saying, price in model[2]})
    names = {sign[1]: True for sign in signs if sign[0] in ("from", "is")}
    for item in model[1] + model[2]:
        if item[0] in sayings:
            names.update({x: True for x in own_names(item[1])})
    names.update({x: True for x in order})
    names.update({x: True for constant, terms, prices in wishes for x, w in terms})
    return (tuple(sorted(names)), tuple(sorted(sayings)))


def _have_prices(wishes):
    return any([prices == 1 for constant, terms, prices in wishes])


def is_resting(used, before, after, asked, head):
    """Tell whether a paper with this head that uses these names, taken in the model before, rests in the one after."""
    unknowns, sayings = used
    if not _have_same(before[0], after[0], unknowns):
        return False
    if not _have_same(before[1], after[1], sayings) or not _have_same(before[2], after[2], sayings):
        return False
    return _is_head_resting(before, after, asked, head)


def _have_same(before, after, names):
    # whether what stands under the names is the same in both, also where there is nothing
    old = [item for item in before if item[0] in names]
    new = [item for item in after if item[0] in names]
    return sorted(old, key=_name_of) == sorted(new, key=_name_of)


def _name_of(item):
    return item[0]


def _is_head_resting(before, after, asked, head):
    order, exchanges, wishes, fillings = head
    if not all([keeps_model(after, exchange) for exchange in exchanges]):
        return False
    if asked[0] in ("best", "unbeaten"):
        if not all([keeps_wish(after, wish, exchange) for wish in wishes for exchange in exchanges]):
            return False
    softs = [item[0] for item in before[2]]
    if _have_prices(wishes) and not all([item[0] in softs for item in after[2]]):
        return False
    return fillings == () or before[0] == after[0] and all([keeps(after, filling) for filling in fillings])
