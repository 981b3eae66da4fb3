"""Searches of a model by its parts, with what they found and what is proved by them."""

from aswritten.books import Book
from aswritten.drafts import Draft
from aswritten.errors import TooFar
from aswritten.goals import NoGoal, RowGoal
from aswritten.models import domains_of
from aswritten.proofs import Proof
from aswritten.striking import striker_of
from aswritten.visits import MOST_FIRST, MOST_WHOLE, Search, model_of_part, names_in, parts_of


class Part:
    """A part of a model, with the model inside it and a search that has ended."""

    def __init__(self, model, names, most, is_to_first):
        self.names = names
        self.inside = model_of_part(model, names)
        self.domains = domains_of(self.inside)
        self.striker = striker_of(self.inside, tuple([s for s, saying in self.inside[1]]))
        self.search = Search(self.striker, names, most, is_to_first)
        self.search.start(self.domains)
        self.fillings = [{x: values[0] for x, values in lefts.items()} for lefts in self.search.fillings]

    def proof(self, draft):
        """Return a proof by what is said of the part."""
        return Proof(draft, self.striker, self.names, self.domains)

    def proved(self, draft, goal):
        """Put the steps by which the goal is met in all fillings of the part, and return the last one."""
        return self.proof(draft).proved(goal)

    def row_step(self, draft, n, row):
        """Put a row that holds in all fillings of the part, with the name number n."""
        if row[1] == 0:
            return draft.ruled(row, [])
        goal = RowGoal(draft, n, row)
        return goal.told(self.proved(draft, goal))


def parts_by_first(model):
    """Return the parts, each with its first filling, if it has one; raise TooFar by first."""
    return _parts_searched(model, MOST_FIRST, True)


def parts_by_whole(model):
    """Return the parts, each with all its fillings; raise TooFar by whole."""
    return _parts_searched(model, MOST_WHOLE, False)


def _parts_searched(model, most, is_to_first):
    searched = [Part(model, names, most, is_to_first) for names in parts_of(model)]
    if any([part.search.is_cut for part in searched]):
        raise TooFar()
    return searched


def dead_part(searched):
    """Return the part without a filling for which the fewest choices were made, or None."""
    dead = [part for part in searched if part.fillings == []]
    return min(dead, key=lambda part: len(part.search.choices)) if dead != [] else None


def joined_filling(model, chosen):
    """Return the filling that has the values of the dicts, of which there is one for each part."""
    at = {x: v for values in chosen for x, v in values.items()}
    return tuple([at[x] for x in names_in(model)])


def none_answer(model, part):
    """Return ("none", paper), by a part that has no filling."""
    draft = Draft(Book(model))
    number = part.proved(draft, NoGoal())
    return ("none", draft.paper(number)[1])
