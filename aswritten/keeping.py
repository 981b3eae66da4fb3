"""Models that are edited, and papers that outlive the edits: what they use, whether they rest, and other names."""

from aswritten.errors import NothingLeft, UnknownName
from aswritten.models import check_model
from aswritten.partial import dead_part, joined_filling, none_answer, parts_by_first, parts_by_whole
from aswritten.renames import renamed_items, renamed_unknowns
from aswritten.renaming import renamed_head, renamed_question, renamed_step
from aswritten.rowparts import RowParts
from aswritten.uses import is_resting, used_names
from aswritten.wishes import check_wishes, worths
from aswritten.worthparts import best_filling, best_paper


def uses(model, asked, paper):
    """Return (names of unknowns, names of sayings) that a paper uses, which is taken."""
    return used_names(model, asked, paper)


def rests(before, after, asked, paper):
    """Tell whether a paper that is taken in the model before rests in the model after."""
    return is_resting(used_names(before, asked, paper), before, after, asked, paper[0])


def renamed(model, names):
    """Return the model with other names, told as pairs (old, new)."""
    new = {old: name for old, name in names}
    return (renamed_unknowns(model[0], new), renamed_items(model[1], new), renamed_items(model[2], new))


def renamed_asked(asked, names):
    """Return what is asked with other names."""
    return renamed_question(asked, {old: name for old, name in names})


def renamed_paper(paper, names):
    """Return the paper with other names; it need not be taken."""
    new = {old: name for old, name in names}
    head, steps = paper
    return (renamed_head(head, new), tuple([renamed_step(step, new) for step in steps]))


class Keeper:
    """A model and wishes, which are edited and asked, with the papers returned so far."""

    def __init__(self, model, wishes):
        check_model(model)
        check_wishes(model, wishes)
        # all states that undo and redo lead through, and the place of the present one
        self._states = [(model, wishes)]
        self._place = 0
        # tuples: what was asked, the model for which the paper was new, the names that it uses, the paper
        self._papers = []

    @property
    def model(self):
        """The present model."""
        return self._states[self._place][0]

    @property
    def wishes(self):
        """The present wishes."""
        return self._states[self._place][1]

    def _edit(self, model, wishes):
        check_model(model)
        check_wishes(model, wishes)
        self._states = self._states[:self._place + 1] + [(model, wishes)]
        self._place += 1

    def _put(self, part, item):
        parts = list(self.model)
        parts[part] = parts[part] + (item,)
        self._edit(tuple(parts), self.wishes)

    def _change(self, part, item):
        parts = list(self.model)
        if item[0] not in [old[0] for old in parts[part]]:
            raise UnknownName(item[0])
        parts[part] = tuple([item if old[0] == item[0] else old for old in parts[part]])
        self._edit(tuple(parts), self.wishes)

    def put_unknown(self, name, domain):
        """Put an unknown behind the others."""
        self._put(0, (name, domain))

    def put_saying(self, name, saying):
        """Put a saying behind the others."""
        self._put(1, (name, saying))

    def put_soft(self, name, saying, price):
        """Put a soft saying behind the others."""
        self._put(2, (name, saying, price))

    def change_domain(self, name, domain):
        """Give an unknown another domain."""
        self._change(0, (name, domain))

    def change_saying(self, name, saying):
        """Let a saying that is not soft say something else."""
        self._change(1, (name, saying))

    def change_soft(self, name, saying, price):
        """Let a soft saying say something else, or have another price."""
        self._change(2, (name, saying, price))

    def drop(self, name):
        """Take away the unknown, saying or soft saying of this name."""
        left = tuple([tuple([item for item in items if item[0] != name]) for items in self.model])
        if left == self.model:
            raise UnknownName(name)
        self._edit(left, self.wishes)

    def set_wishes(self, wishes):
        """Let the wishes be others."""
        self._edit(self.model, wishes)

    def undo(self):
        """Take back the last edit that is not undone."""
        if self._place == 0:
            raise NothingLeft()
        self._place -= 1

    def redo(self):
        """Make the edit again that was undone last."""
        if self._place == len(self._states) - 1:
            raise NothingLeft()
        self._place += 1

    def some(self):
        """Return ("filling", the least one), or ("none", paper); raise TooFar by first."""
        searched = parts_by_first(self.model)
        if dead_part(searched) is not None:
            return self._none(searched)
        return ("filling", joined_filling(self.model, [part.fillings[0] for part in searched]))

    def best(self):
        """Return ("best", worths, the least filling of these, paper), or ("none", paper); raise TooFar by whole."""
        searched = parts_by_whole(self.model)
        if dead_part(searched) is not None:
            return self._none(searched)
        filling = best_filling(self.model, self.wishes, searched)
        told = worths(self.model, self.wishes, filling)
        asked = ("best", self.wishes, told)
        paper = self._kept(asked)
        if paper is None:
            paper = self._added(asked, best_paper(self.model, self.wishes, searched, filling))
        return ("best", told, filling, paper)

    def holds(self, row):
        """Return ("all", paper), or ("breaks", the least filling in which it does not hold); raise TooFar by whole."""
        told = RowParts(self.model, row, parts_by_whole(self.model))
        filling = told.breaking()
        if filling is not None:
            return ("breaks", filling)
        paper = self._kept(("row", row))
        if paper is None:
            paper = self._added(("row", row), told.paper())
        return ("all", paper)

    def _none(self, searched):
        paper = self._kept(("none",))
        if paper is None:
            paper = self._added(("none",), none_answer(self.model, dead_part(searched))[1])
        return ("none", paper)

    def _kept(self, asked):
        # the first paper returned for this that rests in the present model, or None
        for other, before, used, paper in self._papers:
            if other == asked and is_resting(used, before, self.model, asked, paper[0]):
                return paper
        return None

    def _added(self, asked, paper):
        self._papers.append((asked, self.model, used_names(self.model, asked, paper), paper))
        return paper
