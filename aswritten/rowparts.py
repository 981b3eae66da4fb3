"""Rows as sums over the parts of a model: whether they hold in all fillings, with papers, or where they break."""

from aswritten.books import Book
from aswritten.drafts import Draft
from aswritten.goals import NoGoal
from aswritten.partial import dead_part
from aswritten.sayings import own_names
from aswritten.visits import names_in
from aswritten.worthparts import all_sayings, row_sum


class RowParts:
    """A row without names in a model whose parts were searched by whole."""

    def __init__(self, model, row, searched):
        self._model = model
        self._row = row
        self._searched = searched
        self._dead = dead_part(searched)
        self._sayings = all_sayings(model)
        self._sides = [tuple([side for side in row[0] if self._is_of(part, side[0][0])]) for part in searched]

    def _is_of(self, part, sign):
        if sign[0] in ("from", "is"):
            return sign[1] in part.domains
        return own_names(self._sayings[sign[1]])[0] in part.domains

    def _lists(self):
        # for each part the pairs of what the row comes to and the filling
        lists = []
        for part, sides in zip(self._searched, self._sides):
            lists.append([(row_sum(self._sayings, sides, at), at) for at in part.fillings])
        return lists

    def breaking(self):
        """Return the least filling that keeps the model and in which the row does not hold, or None."""
        if self._dead is not None:
            return None
        lists = self._lists()
        if _least_sum(lists) >= self._row[1]:
            return None
        places = {x: k for k, part in enumerate(self._searched) for x in part.names}
        filling = []
        for x in names_in(self._model):
            v, lists = self._taken(lists, places[x], x)
            filling.append(v)
        return tuple(filling)

    def _taken(self, lists, k, x):
        # the least value of x with which the row can break, and what is left then
        for v in self._searched[k].domains[x]:
            narrowed = [pair for pair in lists[k] if pair[1][x] == v]
            others = lists[:k] + [narrowed] + lists[k + 1:]
            if narrowed != [] and _least_sum(others) < self._row[1]:
                return (v, others)
        return (None, lists)

    def paper(self):
        """Return the paper that the row holds in all fillings that keep the model, as it does."""
        draft = Draft(Book(self._model))
        if self._row[1] == 0:
            return draft.paper(draft.ruled(self._row, []))[1]
        if self._dead is not None:
            return draft.paper(draft.ruled(self._row, [self._dead.proved(draft, NoGoal())]))[1]
        numbers = []
        wanted = self._row[1]
        for n, (part, sides, pairs) in enumerate(zip(self._searched, self._sides, self._lists())):
            if sides != ():
                least = min(wanted, _least_sum([pairs]))
                numbers.append(part.row_step(draft, n, (sides, least)))
                wanted = wanted - least
        number = draft.added([(one, 1) for one in numbers]) if len(numbers) > 1 else numbers[0]
        return draft.paper(number)[1]


def _least_sum(lists):
    return sum([min([told for told, at in pairs]) for pairs in lists])
