"""What is asked, and papers, with other names; new is a dict that has the new name of each name under the old one."""

from aswritten.renames import renamed_names


def renamed_sign(sign, new):
    """Return the sign, or the name of a given row, with the new names."""
    return sign if sign[0] == "name" else (sign[0], new.get(sign[1], sign[1])) + sign[2:]


def renamed_row(row, new):
    """Return the row with the new names, its parts ascending again."""
    parts, least = row
    return (tuple(sorted([((renamed_sign(sign, new), worth), c) for (sign, worth), c in parts])), least)


def renamed_wishes(wishes, new):
    """Return the wishes with the new names, their terms ascending again."""
    return tuple([(constant, tuple(sorted([(new.get(x, x), w) for x, w in terms])), prices)
                  for constant, terms, prices in wishes])


def renamed_question(asked, new):
    """Return what is asked with the new names."""
    if asked[0] in ("row", "always"):
        return (asked[0], renamed_row(asked[1], new))
    if asked[0] in ("best", "unbeaten"):
        return (asked[0], renamed_wishes(asked[1], new), asked[2])
    return asked


def renamed_head(head, new):
    """Return the head with the new names."""
    order, exchanges, wishes, fillings = head
    turned = tuple([tuple(sorted([(new.get(x, x), new.get(y, y), pairs) for x, y, pairs in exchange]))
                    for exchange in exchanges])
    return (renamed_names(order, new), turned, renamed_wishes(wishes, new), fillings)


def renamed_step(step, new):
    """Return the step with the new names."""
    word = step[0]
    if word == "given":
        return (word, renamed_sign(step[1], new))
    if word == "told":
        return (word, new.get(step[1], step[1]), renamed_row(step[2], new))
    if word == "side":
        return (word, (renamed_sign(step[1][0], new), step[1][1]))
    if word == "weaken":
        return (word, step[1], renamed_sign(step[2], new))
    if word == "led":
        return (word, renamed_row(step[1], new), step[2])
    if word == "name":
        return (word, step[1], renamed_row(step[2], new))
    return step
