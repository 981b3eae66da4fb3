"""What papers may cite of a model, worked out when it is asked for."""

from aswritten.forms import is_flat, is_number
from aswritten.models import domains_of
from aswritten.notation import at_least, at_most, from_term, implied, next_value
from aswritten.signrows import sign_rows_of
from aswritten.signs import signs_of
from aswritten.tellings import telling_rows_of


class Book:
    """The given rows of a model; those of a saying are listed once, when the first one is asked.

    source is the model; smalls has what was worked out of small sayings, by their names.
    """

    def __init__(self, model):
        self.source = model
        self.domains = domains_of(model)
        self.sayings = {item[0]: item[1] for item in model[1] + model[2]}
        self.soft = {item[0]: True for item in model[2]}
        self.smalls = {}
        self._lists = {}
        self._signs = {}

    def signs(self):
        """Return the dict that has each sign of the model as a key."""
        if not self._signs:
            self._signs = signs_of(self.source)
        return self._signs

    def listed(self, word, s):
        """Return the list of the sign rows ("sign") or the telling rows ("tells") of s."""
        if (word, s) not in self._lists:
            saying = self.sayings[s]
            if word == "sign":
                rows = sign_rows_of(self.domains, s, saying)
            else:
                rows = telling_rows_of(self.domains, s, saying, s in self.soft)
            self._lists[(word, s)] = rows
        return self._lists[(word, s)]

    def cited(self, name):
        """Return the given row of any name, or None if there is none."""
        if not is_flat(name, 3, 4):
            return None
        if name[0] in ("sign", "tells"):
            return self._saying_row(name)
        if name[0] in _UNKNOWN_ROWS and type(name[1]) is str and name[1] in self.domains:
            told = _UNKNOWN_ROWS[name[0]]
            return told(self.domains, name)
        return None

    def _saying_row(self, name):
        if len(name) != 3 or type(name[1]) is not str or name[1] not in self.sayings:
            return None
        rows = self.listed(name[0], name[1])
        return rows[name[2]] if is_number(name[2], 0, len(rows) - 1) else None


def _chain_row(domains, name):
    x, v = name[1:3]
    if len(name) != 3 or type(v) is not int or v not in domains[x][1:-1]:
        return None
    return implied([("from", x, next_value(domains[x], v))], [("from", x, v)])[0]


def _part_row(domains, name):
    if len(name) != 4 or not is_number(name[3], 0, 1):
        return None
    x, v, k = name[1:]
    if type(v) is not int or v not in domains[x]:
        return None
    pairs = [(("is", x, v), 1), (from_term(domains, x, v), -1), (from_term(domains, x, v + 1), 1)]
    return at_least(pairs, 0) if k == 0 else at_most(pairs, 0)


def _one_row(domains, name):
    if len(name) != 3 or not is_number(name[2], 0, 1):
        return None
    x, k = name[1:]
    ones = [(("is", x, v), 1) for v in domains[x]]
    return at_least(ones, 1) if k == 0 else at_most(ones, 1)


_UNKNOWN_ROWS = {"chain": _chain_row, "part": _part_row, "one": _one_row}
