"""Exchanges of unknowns and values: whether they keep models and wishes, and which fillings they lead to."""

from aswritten.errors import TooFar
from aswritten.forms import ascends, is_flat, is_tuple, is_unknown
from aswritten.images import Lead, bare, form_of, image_of, keeps_words
from aswritten.models import domains_of
from aswritten.sayings import own_names

MOST_IN_CLASS = 2000


def check_exchange(model, value):
    """Tell whether any value is an exchange."""
    domains = domains_of(model)
    if type(value) is not tuple or not all([_is_led(domains, item) for item in value]):
        return False
    firsts = [x for x, y, pairs in value]
    return ascends(firsts) and sorted([y for x, y, pairs in value]) == firsts


def _is_led(domains, value):
    if not is_tuple(value, 3, 3) or not is_unknown(domains, value[0]) or not is_unknown(domains, value[1]):
        return False
    x, y, pairs = value
    many = len(domains[x])
    if not is_tuple(pairs, many, many) or not all([_is_number_pair(pair) for pair in pairs]):
        return False
    return tuple([v for v, w in pairs]) == domains[x] and tuple(sorted([w for v, w in pairs])) == domains[y]


def _is_number_pair(value):
    return is_flat(value, 2, 2) and type(value[0]) is int and type(value[1]) is int


def turned(model, exchange, filling):
    """Return the filling to which the exchange leads the filling."""
    values = {item[0]: v for item, v in zip(model[0], filling)}
    led = {x: v for x, v in values.items()}
    for x, y, pairs in exchange:
        led[y] = [w for v, w in pairs if v == values[x]][0]
    return tuple([led[item[0]] for item in model[0]])


def keeps_model(model, value):
    """Tell whether any value is an exchange that keeps the model."""
    if not check_exchange(model, value):
        return False
    return _keeps_all(Lead(domains_of(model), value), _bare_items(model, [(said, 0) for name, said in model[1]]))


def _bare_items(model, items):
    # pairs (bare saying, price) with their forms as texts, which may be keys however deep they are nested
    domains = domains_of(model)
    bares = [(bare(domains, saying), price) for saying, price in items]
    return [(saying, price, _form_text(saying, price)) for saying, price in bares]


def _form_text(saying, price):
    return repr((form_of(saying), price))


def _keeps_all(lead, items):
    # the exchange keeps all sayings, and the forms of their images are their forms, each as often
    if not all([keeps_words(lead, saying) for saying, price, text in items]):
        return False
    left = {}
    for saying, price, text in items:
        left[text] = left.get(text, 0) + 1
    for saying, price, text in items:
        image_text = _form_text(image_of(lead, saying), price)
        if left.get(image_text, 0) == 0:
            return False
        left[image_text] -= 1
    return True


def keeps_wish(model, wish, value):
    """Tell whether any value is an exchange that keeps the wish."""
    if not check_exchange(model, value):
        return False
    lead = Lead(domains_of(model), value)
    terms, prices = wish[1:]
    if not _keeps_terms(lead, {x: w for x, w in terms}):
        return False
    return prices == 0 or _keeps_all(lead, _bare_items(model, [(said, price) for name, said, price in model[2]]))


def _keeps_terms(lead, weights):
    total = 0
    for x, domain in lead.domains.items():
        before, behind = weights.get(x, 0), weights.get(lead.names[x], 0)
        numbers = [behind * lead.steps[x][v] - before * v for v in domain]
        if min(numbers) < max(numbers):
            return False
        total += numbers[0]
    return total == 0


def class_of(model, exchanges, filling):
    """Return the ascending tuple of the fillings that come of this one; raise TooFar if there are too many."""
    met = {filling: True}
    waiting = [filling]
    while waiting:
        one = waiting.pop()
        for exchange in exchanges:
            other = turned(model, exchange, one)
            if other not in met:
                met[other] = True
                waiting.append(other)
        if len(met) > MOST_IN_CLASS:
            raise TooFar()
    return tuple(sorted(met))


def found(model):
    """Return the ascending tuple of the exchanges of two unknowns, or of two values, that keep the model."""
    items = _bare_items(model, [(said, 0) for name, said in model[1]])
    owned = [own_names(said) for name, said in model[1]]
    domains = domains_of(model)
    kept = []
    for exchange in _unknown_exchanges(domains) + _value_exchanges(domains):
        # sayings of other unknowns are their own images
        moved = {x: True for x, y, pairs in exchange}
        touched = [item for item, names in zip(items, owned) if any([x in moved for x in names])]
        if _keeps_all(Lead(domains, exchange), touched):
            kept.append(exchange)
    return tuple(sorted(kept))


def _unknown_exchanges(domains):
    exchanges = []
    names = sorted(domains)
    for k, x in enumerate(names):
        for y in names[k + 1:]:
            if domains[x] == domains[y]:
                pairs = tuple([(v, v) for v in domains[x]])
                exchanges.append(((x, y, pairs), (y, x, pairs)))
    return exchanges


def _value_exchanges(domains):
    twos = [(a, b) for domain in domains.values() for k, a in enumerate(domain) for b in domain[k + 1:]]
    exchanges = []
    for a, b in sorted(set(twos)):
        names = [x for x in sorted(domains) if a in domains[x] and b in domains[x]]
        exchanges.append(tuple([(x, x, _swapped(domains[x], a, b)) for x in names]))
    return exchanges


def _swapped(domain, a, b):
    steps = {a: b, b: a}
    return tuple([(v, steps.get(v, v)) for v in domain])
