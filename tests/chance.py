"""Models by chance, from a random.Random that the test seeds."""

from aswritten.claims import is_claim
from aswritten.errors import BadModel
from aswritten.models import check_model

WORDS = ("least", "same", "unlike", "counts", "table", "bar", "pick", "top", "product", "ahead", "machine", "works",
         "round", "claim", "when")


def unknowns_by(chance, many, values=range(-1, 5), most=4):
    """many unknowns a, b, .. with up to most values each; sometimes they begin with 0, as places do."""
    unknowns = []
    for x in "abcdefghij"[:many]:
        domain = tuple(sorted(chance.sample(list(values), chance.randint(1, most))))
        if chance.random() < 0.3:
            domain = tuple(range(chance.randint(1, most + 1)))
        unknowns.append((x, domain))
    return tuple(unknowns)


def claim_by(chance, names, level=0):
    number = chance.random()
    if level > 2 or number < 0.5:
        return (chance.choice(("from", "is")), chance.choice(names), chance.randint(-1, 4))
    if number < 0.65:
        return ("not", claim_by(chance, names, level + 1))
    parts = [claim_by(chance, names, level + 1) for _ in range(chance.choice((0, 1, 2, 2, 3)))]
    return (chance.choice(("and", "or")), tuple(parts))


def right_claim_by(chance, unknowns):
    while True:
        claim = claim_by(chance, [x for x, domain in unknowns])
        if is_claim(dict(unknowns), claim):
            return claim


def saying_by(chance, word, unknowns):
    """A saying of this word; it may be none that is right for the unknowns."""
    names = [x for x, domain in unknowns]

    def some(low, high):
        return tuple(chance.sample(names, min(len(names), chance.randint(low, high))))

    def rows_of(many, most):
        return tuple(sorted({tuple(chance.randint(-1, 4) for _ in range(many)) for _
                             in range(chance.randint(0, most))}))

    if word in ("least", "same"):
        terms = tuple((x, chance.choice((-3, -2, -1, 1, 2, 3))) for x in some(1, 4))
        return (word, terms, chance.randint(-8, 12))
    if word in ("unlike", "round"):
        return (word, some(1, 5))
    if word == "counts":
        values = sorted(chance.sample(range(-1, 6), chance.randint(1, 4)))
        lows = [chance.choice((0, 0, 1, 1, 2)) for _ in values]
        return (word, some(1, 5), tuple((v, low, low + chance.choice((0, 0, 1, 2))) for v, low in zip(values, lows)))
    if word in ("table", "bar"):
        xs = some(1, 3 if word == "table" else 2)
        return (word, xs, rows_of(len(xs), 12))
    if word == "pick":
        i, *xs, r = some(3, 6)
        return (word, i, tuple(xs), r)
    if word == "top":
        *xs, r = some(2, 5)
        return (word, tuple(xs), r)
    if word == "product":
        return (word, *some(3, 3))
    if word == "ahead":
        many = chance.randint(1, min(3, len(names) // 2))
        xs = some(2 * many, 2 * many)
        return (word, xs[:many], xs[many:])
    if word == "machine":
        moves = {(chance.randint(0, 3), chance.randint(-1, 4)): chance.randint(0, 4)
                 for _ in range(chance.randint(0, 14))}
        ends = tuple(sorted(chance.sample(range(5), chance.randint(0, 2))))
        return (word, some(1, 4), chance.randint(0, 2), tuple(sorted((q, v, u) for (q, v), u in moves.items())), ends)
    if word == "works":
        xs = some(1, 4)
        return (word, xs, tuple(chance.randint(1, 4) for _ in xs), tuple(chance.randint(0, 4) for _ in xs),
                chance.randint(0, 6))
    if word == "claim":
        return (word, right_claim_by(chance, unknowns))
    return (word, right_claim_by(chance, unknowns), saying_by(chance, chance.choice(WORDS[:-1]), unknowns))


def model_by(chance, words, soft_words=(), many=(3, 6)):
    """A right model with sayings s0, s1, .. and soft sayings t0, t1, .. of these words."""
    while True:
        unknowns = unknowns_by(chance, chance.randint(*many))
        sayings = tuple((f"s{k}", saying_by(chance, word, unknowns)) for k, word in enumerate(words))
        soft = tuple((f"t{k}", saying_by(chance, word, unknowns), k + 2) for k, word in enumerate(soft_words))
        try:
            check_model((unknowns, sayings, soft))
        except BadModel:
            continue
        return (unknowns, sayings, soft)


def filling_by(chance, model):
    return tuple(chance.choice(domain) for x, domain in model[0])


def state_by(chance, model, whole=0.4):
    """A state in which a domain is whole with this chance."""
    return tuple(domain if chance.random() < whole else tuple(sorted(chance.sample(domain,
            chance.randint(1, len(domain)))))
                 for x, domain in model[0])
