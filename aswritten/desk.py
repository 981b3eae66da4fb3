"""A desk, which is asked in lines and answers in strings."""

from aswritten.answers import every
from aswritten.asking import read_line
from aswritten.clashing import clashes
from aswritten.errors import UnknownName
from aswritten.keeping import Keeper
from aswritten.texts import flatten
from aswritten.visits import names_in
from aswritten.webs import count

DONE = "done"
NONE = "none"


class Desk:
    """A keeper of the model and wishes of a text, and the number of steps of the last paper."""

    def __init__(self, text):
        model, wishes, places = flatten(text)
        self._keeper = Keeper(model, wishes)
        # the number of steps of the last paper, None before the first one
        self._steps = None

    def answer(self, line):
        """Do what the line says and return the answer; raise BadText, then UnknownName, then what the keeper raises."""
        words, names = read_line(line)
        unknowns = names_in(self._keeper.model)
        for name in names:
            if name not in unknowns:
                raise UnknownName(name)
        word = words[0]
        if word == "some":
            return self._some()
        if word == "best":
            return self._best()
        if word == "count":
            return str(count(self._keeper.model))
        if word == "every":
            return self._every(words[1])
        if word == "clashes":
            return self._clashes(words[1])
        if word == "paper":
            return NONE if self._steps is None else str(self._steps)
        self._edit(words)
        return DONE

    def _edit(self, words):
        word = words[0]
        if word == "put":
            self._keeper.put_unknown(words[1], words[2])
        elif word == "say":
            self._keeper.put_saying(words[1], words[2])
        elif word == "soft":
            self._keeper.put_soft(words[1], words[2], words[3])
        elif word == "drop":
            self._keeper.drop(words[1])
        elif word == "undo":
            self._keeper.undo()
        else:
            self._keeper.redo()

    def _note(self, papers):
        # the last one of the papers that were returned
        if papers != []:
            self._steps = len(papers[-1][1])

    def _valued(self, filling):
        return " ".join([f"{x}={v}" for x, v in zip(names_in(self._keeper.model), filling)])

    def _some(self):
        word, found = self._keeper.some()
        if word == "none":
            self._note([found])
            return NONE
        return f"filling {self._valued(found)}"

    def _best(self):
        told = self._keeper.best()
        self._note([told[-1]])
        if told[0] == "none":
            return NONE
        worths = ",".join([str(worth) for worth in told[1]])
        return f"best {worths} {self._valued(told[2])}"

    def _every(self, x):
        model = self._keeper.model
        answers = every(model)[names_in(model).index(x)]
        self._note([paper for v, (word, paper) in answers if word == "never"])
        values = [str(v) for v, (word, found) in answers if word == "filling"]
        return " ".join(values) if values != [] else NONE

    def _clashes(self, names):
        model = self._keeper.model
        sayings = [s for s, saying in model[1]]
        for name in names:
            if name not in sayings:
                raise UnknownName(name)
        found = clashes(model, tuple(sorted(names)))[0]
        self._note([paper for lot, paper in found])
        lots = [",".join(list(lot)) if lot != () else "()" for lot, paper in found]
        return " ".join(lots) if lots != [] else NONE
