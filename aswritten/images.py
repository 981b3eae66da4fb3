"""What exchanges make of sayings: whether they keep them, their images and their forms."""

from aswritten.claims import inner_claims
from aswritten.sayings import own_names
from aswritten.signs import inner_of


class Lead:
    """Where an exchange leads: names has where each unknown is led, steps where each of its values is."""

    def __init__(self, domains, exchange):
        self.domains = domains
        self.names = {x: x for x in domains}
        self.steps = {x: {v: v for v in domains[x]} for x in domains}
        for x, y, pairs in exchange:
            self.names[x] = y
            self.steps[x] = {v: w for v, w in pairs}


def leads_to_itself(lead, x):
    """Tell whether x is led to an unknown of the same domain, and each value to itself."""
    domain = lead.domains[x]
    return lead.domains[lead.names[x]] == domain and all([lead.steps[x][v] == v for v in domain])


def keeps_words(lead, saying):
    """Tell whether the exchange keeps the saying by what is asked of its word."""
    if saying[0] == "when" and not _keeps_claim(lead, saying[1]):
        return False
    inner = inner_of(saying)
    if inner[0] == "claim":
        return _keeps_claim(lead, inner[1])
    if inner[0] in ("table", "bar"):
        return True
    if inner[0] in ("unlike", "counts", "machine"):
        return _keeps_values(lead, inner)
    return all([leads_to_itself(lead, x) for x in own_names(inner)])


def _keeps_claim(lead, claim):
    word = claim[0]
    if word == "from" or word == "is" and claim[2] not in lead.domains[claim[1]]:
        return leads_to_itself(lead, claim[1])
    if word == "is":
        return True
    parts = inner_claims(claim)
    return all([_keeps_claim(lead, part) for part in parts])


def _keeps_values(lead, saying):
    xs = saying[1]
    pairs = [(v, lead.steps[x][v]) for x in xs for v in lead.domains[x]]
    firsts = len({v for v, w in pairs})
    # as many pairs as values on either side: each value is led to one, and no two to the same
    if not firsts == len({w for v, w in pairs}) == len(set(pairs)):
        return False
    if saying[0] != "counts":
        return True
    steps = value_steps(lead, xs)
    return all([v in steps for v, low, high in saying[2]]) or all([v == w for v, w in pairs])


def value_steps(lead, xs):
    """Return a dict that has where each value of the domains of the xs is led."""
    return {v: w for x in xs for v, w in lead.steps[x].items()}


def bare(domains, saying):
    """Return the saying without the rows and moves that have a value of no domain."""
    word = saying[0]
    if word in ("table", "bar"):
        xs = saying[1]
        return (word, xs, tuple([row for row in saying[2] if all([v in domains[x] for x, v in zip(xs, row)])]))
    if word == "machine":
        values = {v: True for x in saying[1] for v in domains[x]}
        return saying[:3] + (tuple([move for move in saying[3] if move[1] in values]), saying[4])
    if word == "when":
        return saying[:2] + (bare(domains, saying[2]),)
    return saying


def image_of(lead, saying):
    """Return the image of a bare saying that the exchange keeps."""
    word = saying[0]
    names = lead.names
    if word == "claim":
        return (word, _claim_image(lead, saying[1]))
    if word == "when":
        return (word, _claim_image(lead, saying[1]), image_of(lead, saying[2]))
    if word in ("least", "same"):
        return (word, tuple([(names[x], w) for x, w in saying[1]]), saying[2])
    if word in ("table", "bar"):
        columns = [lead.steps[x] for x in saying[1]]
        rows = tuple([tuple([column[v] for column, v in zip(columns, row)]) for row in saying[2]])
        return (word, _led(names, saying[1]), rows)
    if word == "counts":
        steps = value_steps(lead, saying[1])
        return (word, _led(names, saying[1]), tuple([(steps.get(v, v), low, high) for v, low, high in saying[2]]))
    if word == "machine":
        steps = value_steps(lead, saying[1])
        moves = tuple([(q, steps[v], u) for q, v, u in saying[3]])
        return (word, _led(names, saying[1]), saying[2], moves, saying[4])
    return (word, *[_led(names, item) for item in saying[1:]])


def _led(names, item):
    # an item of a saying: a name, a tuple of names, or anything with numbers alone
    if type(item) is str:
        return names[item]
    if type(item) is tuple:
        return tuple([names[part] if type(part) is str else part for part in item])
    return item


def _claim_image(lead, claim):
    word = claim[0]
    if word == "from":
        return (word, lead.names[claim[1]], claim[2])
    if word == "is":
        return (word, lead.names[claim[1]], lead.steps[claim[1]].get(claim[2], claim[2]))
    if word == "not":
        return (word, _claim_image(lead, claim[1]))
    return (word, tuple([_claim_image(lead, part) for part in claim[1]]))


def form_of(saying):
    """Return the form of a bare saying: with the order taken away where the words do not need it."""
    word = saying[0]
    if word in ("least", "same", "unlike", "top"):
        return (word, tuple(sorted(saying[1])), *saying[2:])
    if word == "claim":
        return (word, _claim_form(saying[1]))
    if word == "when":
        return (word, _claim_form(saying[1]), form_of(saying[2]))
    if word in ("table", "bar"):
        return _table_form(saying)
    if word == "counts":
        return (word, tuple(sorted(saying[1])), tuple(sorted(saying[2])))
    if word == "product":
        return (word, tuple(sorted(saying[1:3])), saying[3])
    if word == "machine":
        return saying[:3] + (tuple(sorted(saying[3])), saying[4])
    if word == "works":
        return (word, tuple(sorted(zip(saying[1], saying[2], saying[3]))), saying[4])
    return saying


def _table_form(saying):
    places = [place for x, place in sorted([(y, k) for k, y in enumerate(saying[1])])]
    rows = tuple(sorted([tuple([row[place] for place in places]) for row in saying[2]]))
    return (saying[0], tuple([saying[1][place] for place in places]), rows)


def _claim_form(claim):
    if claim[0] == "not":
        return ("not", _claim_form(claim[1]))
    if claim[0] in ("and", "or"):
        return (claim[0], tuple(sorted([_claim_form(part) for part in claim[1]])))
    return claim
