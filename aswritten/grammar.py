"""What stands in lines, from amounts to sums and lists: each function goes on behind it and returns it as a tuple.

An amount is ("number", n), ("place", variable) or ("data", word, items); a reference is ("ref", word, items), where
items are pairs (word, whether it is a variable). Places are (pairs (variable, set), comparisons). A sum is a tuple of
pairs (1 or -1, term), a term ("times", factors) or ("sum", places, sum).
"""

MOST_PLACES = 3
MOST_SETS = 3


def amount(cursor, scope):
    """An AMOUNT."""
    if scope.world is None or cursor.token() == "-" or cursor.token()[:1].isdigit():
        return ("number", cursor.signed())
    told = factor(cursor, scope)
    cursor.require(told[0] != "ref")
    return told


def factor(cursor, scope):
    """A FACTOR."""
    if cursor.token()[:1].isdigit():
        return ("number", cursor.digits())
    word = cursor.token()
    if scope.world is not None:
        if word in scope.variables:
            return ("place", cursor.word())
        if word in scope.world.data:
            return ("data", cursor.word(), _items(cursor, scope, scope.world.data[word]))
    return reference(cursor, scope)


def reference(cursor, scope):
    """A REF."""
    word = cursor.word()
    if scope.world is None:
        scope.names.append(word)
        return ("ref", word, ())
    cursor.require(word in scope.world.unknowns)
    return ("ref", word, _items(cursor, scope, scope.world.unknowns[word]))


def _items(cursor, scope, sets):
    # an item, or a variable, for each of the sets
    items = []
    for k, name in enumerate(sets):
        cursor.expect("," if k > 0 else "(")
        word = cursor.word()
        is_variable = word in scope.variables
        cursor.require(scope.variables[word] == name if is_variable else word in scope.world.sets[name])
        items.append((word, is_variable))
    if sets != ():
        cursor.expect(")")
    return tuple(items)


def places(cursor, scope):
    """PLACES; the variables may be used from now on."""
    cursor.require(scope.world is not None)
    pairs = [_place(cursor, scope)]
    while cursor.skip(","):
        pairs.append(_place(cursor, scope))
    cursor.require(len(pairs) <= MOST_PLACES)
    compares = []
    if cursor.skip("if"):
        compares.append(_compare(cursor, scope))
        while cursor.skip("and"):
            compares.append(_compare(cursor, scope))
    return (tuple(pairs), tuple(compares))


def _place(cursor, scope):
    variable = cursor.word()
    cursor.require(scope.may_tell(variable))
    cursor.expect("in")
    name = cursor.word()
    cursor.require(name in scope.world.sets)
    scope.variables[variable] = name
    return (variable, name)


def _compare(cursor, scope):
    left = amount(cursor, scope)
    for sign in ("=", "<", "<="):
        if cursor.skip(sign):
            return (left, sign, amount(cursor, scope))
    cursor.require(False)


def leave(scope, told):
    """Let the variables of places not be used any more."""
    for variable, name in told[0]:
        del scope.variables[variable]


def whole_sum(cursor, scope, many):
    """A SUM; many variables are told by the sums around it."""
    sign = -1 if cursor.skip("-") else 1
    terms = [(sign, _term(cursor, scope, many))]
    while cursor.token() in ("+", "-"):
        sign = 1 if cursor.skip("+") else -1
        if sign == -1:
            cursor.expect("-")
        terms.append((sign, _term(cursor, scope, many)))
    return tuple(terms)


def _term(cursor, scope, many):
    if cursor.skip("sum"):
        told = places(cursor, scope)
        many = many + len(told[0])
        cursor.require(many <= MOST_PLACES)
        cursor.expect(":")
        cursor.expect("(")
        inner = whole_sum(cursor, scope, many)
        cursor.expect(")")
        leave(scope, told)
        return ("sum", told, inner)
    factors = [factor(cursor, scope)]
    if cursor.skip("*"):
        factors.append(factor(cursor, scope))
    cursor.require([one[0] for one in factors] != ["ref", "ref"])
    return ("times", tuple(factors))


def references(cursor, scope):
    """A LIST: a tuple of pairs (places or None, reference)."""
    return _listed(cursor, scope, reference)


def amounts(cursor, scope):
    """AMOUNTS: a tuple of pairs (places or None, amount)."""
    return _listed(cursor, scope, amount)


def _listed(cursor, scope, read):
    told = [_listed_one(cursor, scope, read)]
    while cursor.skip(","):
        told.append(_listed_one(cursor, scope, read))
    return tuple(told)


def _listed_one(cursor, scope, read):
    if not cursor.skip("each"):
        return (None, read(cursor, scope))
    told = places(cursor, scope)
    cursor.expect(":")
    one = read(cursor, scope)
    leave(scope, told)
    return (told, one)


def several(cursor, read):
    """One or more of what read reads from the cursor, with "," between them, as a tuple."""
    told = [read(cursor)]
    while cursor.skip(","):
        told.append(read(cursor))
    return tuple(told)
