"""Texts that tell models and wishes; names has the new name of each unknown under its own."""


def text_of(model, wishes):
    """Return a text that tells the model, with the names u0, s0, t0 and so on, and the wishes."""
    unknowns, sayings, soft = model
    names = {x: f"u{k}" for k, (x, domain) in enumerate(unknowns)}
    lines = [f"unknown u{k}: " + "{" + _listed(domain) + "}" for k, (x, domain) in enumerate(unknowns)]
    lines.extend([f"s{k}: {_said(saying, names)}" for k, (s, saying) in enumerate(sayings)])
    lines.extend([f"soft {price} t{k}: {_said(saying, names)}" for k, (s, saying, price) in enumerate(soft)])
    lines.extend([f"wish {_wish(wish, names)}" for wish in wishes])
    return "\n".join(lines)


def _listed(items):
    return ", ".join([str(item) for item in items])


def _rows(rows):
    return " ".join([f"({_listed(row)})" for row in rows])


def _wish(wish, names):
    # in the order of the new names, in which the terms come back
    constant, terms, prices = wish
    ordered = sorted(terms, key=lambda term: names[term[0]])
    return _sum(ordered, constant, names) + (", prices" if prices == 1 else "")


def _sum(terms, constant, names):
    # the minus before a number stands as the sign of its term
    pairs = [(constant, "")] + [(w, f" * {names[x]}") for x, w in terms]
    if constant == 0 and len(pairs) > 1:
        del pairs[0]
    told = " ".join([("- " if n < 0 else "+ ") + str(abs(n)) + behind for n, behind in pairs])
    return told[2:] if told[0] == "+" else told


def _said(saying, names):
    word = saying[0]
    if word in ("least", "same"):
        return f"{_sum(saying[1], 0, names)} {'=' if word == 'same' else '>='} {saying[2]}"
    if word == "claim":
        return f"claim {_claim(saying[1], names)}"
    if word == "when":
        return f"when {_claim(saying[1], names)}: {_said(saying[2], names)}"
    if word == "product":
        return f"product {_refs(saying[1:], names)}"
    if word == "pick":
        return f"pick {names[saying[1]]} of {_refs(saying[2], names)} is {names[saying[3]]}"
    return _said_of_list(word, _refs(saying[1], names), saying, names)


def _said_of_list(word, xs, saying, names):
    if word == "counts":
        triples = ", ".join([f"{v} is {low} .. {high}" for v, low, high in saying[2]])
        return f"count {xs}: {triples}"
    if word in ("table", "bar"):
        return f"{word} {xs}: {_rows(saying[2])}"
    if word == "top":
        return f"top {xs} is {names[saying[2]]}"
    if word == "ahead":
        return f"ahead {xs}; {_refs(saying[2], names)}"
    if word == "machine":
        ends = " ".join([str(end) for end in saying[4]])
        return f"machine {xs}: {saying[2]} moves {_rows(saying[3])} ends {ends}"
    if word == "works":
        return f"works {xs} lengths {_listed(saying[2])} needs {_listed(saying[3])} room {saying[4]}"
    return f"{word} {xs}"


def _refs(xs, names):
    return _listed([names[x] for x in xs])


def _claim(claim, names):
    word = claim[0]
    if word in ("from", "is"):
        return f"{names[claim[1]]} {'>=' if word == 'from' else '='} {claim[2]}"
    if word == "not":
        return f"not {_claim(claim[1], names)}"
    parts = ", ".join([_claim(part, names) for part in claim[1]])
    return f"{word} ({parts})"
