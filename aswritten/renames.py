"""Sayings and models with other names; new is a dict that has the new name of each name under the old one."""


def renamed_claim(claim, new):
    """Return the claim with the new names."""
    if claim[0] in ("from", "is"):
        return (claim[0], new.get(claim[1], claim[1]), claim[2])
    if claim[0] == "not":
        return ("not", renamed_claim(claim[1], new))
    return (claim[0], tuple([renamed_claim(part, new) for part in claim[1]]))


def renamed_saying(saying, new):
    """Return the saying with the new names."""
    word = saying[0]
    if word in ("least", "same"):
        return (word, tuple([(new.get(x, x), w) for x, w in saying[1]]), saying[2])
    if word == "claim":
        return (word, renamed_claim(saying[1], new))
    if word == "when":
        return (word, renamed_claim(saying[1], new), renamed_saying(saying[2], new))
    if word == "pick":
        return (word, new.get(saying[1], saying[1]), renamed_names(saying[2], new), new.get(saying[3], saying[3]))
    if word == "top":
        return (word, renamed_names(saying[1], new), new.get(saying[2], saying[2]))
    if word == "product":
        return (word,) + renamed_names(saying[1:], new)
    if word == "ahead":
        return (word, renamed_names(saying[1], new), renamed_names(saying[2], new))
    return (word, renamed_names(saying[1], new)) + saying[2:]


def renamed_names(names, new):
    """Return the tuple of the new names."""
    return tuple([new.get(x, x) for x in names])


def renamed_items(items, new):
    """Return the sayings or soft sayings with the new names, also of themselves."""
    return tuple([(new.get(item[0], item[0]), renamed_saying(item[1], new)) + item[2:] for item in items])


def renamed_unknowns(unknowns, new):
    """Return the unknowns with the new names."""
    return tuple([(new.get(x, x), domain) for x, domain in unknowns])


def with_beginning(model, beginning):
    """Return the dict that has for each name of the model the name with this beginning."""
    return {item[0]: beginning + item[0] for items in model for item in items}
