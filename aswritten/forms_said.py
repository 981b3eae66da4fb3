"""The forms of sayings and claims in lines.

A saying is read as a tuple: ("sums", left, sign, right), or its first word and what follows, with lists of references,
lists of amounts, references, and numbers. A claim is read as a claim with references in the place of names.
"""

from aswritten.grammar import amounts, reference, references, several, whole_sum

MOST_DEEP = 6


def said(cursor, scope):
    """A SAYING."""
    return _said(cursor, scope, True)


def _said(cursor, scope, may_be_when):
    word = cursor.token()
    if word in _FORMS:
        cursor.skip(word)
        read = _FORMS[word]
        return (word,) + read(cursor, scope)
    if word == "when":
        cursor.require(may_be_when)
        cursor.skip(word)
        told = claim(cursor, scope, 1)
        cursor.expect(":")
        return (word, told, _said(cursor, scope, False))
    left = whole_sum(cursor, scope, 0)
    sign = cursor.token()
    cursor.require(sign in (">=", "<=", "="))
    cursor.skip(sign)
    return ("sums", left, sign, whole_sum(cursor, scope, 0))


def _one_list(cursor, scope):
    return (references(cursor, scope),)


def _two_lists(cursor, scope):
    left = references(cursor, scope)
    cursor.expect(";")
    return (left, references(cursor, scope))


def _top(cursor, scope):
    xs = references(cursor, scope)
    cursor.expect("is")
    return (xs, reference(cursor, scope))


def _pick(cursor, scope):
    i = reference(cursor, scope)
    cursor.expect("of")
    return (i,) + _top(cursor, scope)


def _product(cursor, scope):
    told = several(cursor, lambda one: reference(one, scope))
    cursor.require(len(told) == 3)
    return told


def _count(cursor, scope):
    xs = references(cursor, scope)
    cursor.expect(":")
    triples = several(cursor, _triple)
    return (xs, _all_different(cursor, triples))


def _triple(cursor):
    v = cursor.signed()
    cursor.expect("is")
    low = cursor.digits()
    cursor.expect("..")
    return (v, low, cursor.digits())


def _all_different(cursor, items):
    cursor.require(len(set(items)) == len(items))
    return tuple(sorted(items))


def _rows(cursor, scope):
    xs = references(cursor, scope)
    cursor.expect(":")
    rows = []
    while cursor.skip("("):
        rows.append(several(cursor, lambda one: one.signed()))
        cursor.expect(")")
    return (xs, tuple(sorted(set(rows))))


def _machine(cursor, scope):
    xs = references(cursor, scope)
    cursor.expect(":")
    start = cursor.digits()
    cursor.expect("moves")
    moves = []
    while cursor.skip("("):
        moves.append(_move(cursor))
    cursor.expect("ends")
    ends = []
    while cursor.token() != "":
        ends.append(cursor.digits())
    return (xs, start, _all_different(cursor, moves), _all_different(cursor, ends))


def _move(cursor):
    before = cursor.digits()
    cursor.expect(",")
    v = cursor.signed()
    cursor.expect(",")
    behind = cursor.digits()
    cursor.expect(")")
    return (before, v, behind)


def _works(cursor, scope):
    xs = references(cursor, scope)
    cursor.expect("lengths")
    lengths = amounts(cursor, scope)
    cursor.expect("needs")
    needs = amounts(cursor, scope)
    cursor.expect("room")
    return (xs, lengths, needs, cursor.digits())


def _claim(cursor, scope):
    return (claim(cursor, scope, 1),)


def claim(cursor, scope, depth):
    """A CLAIM that stands so deep."""
    cursor.require(depth <= MOST_DEEP)
    word = cursor.token()
    if word == "not":
        cursor.skip(word)
        return (word, claim(cursor, scope, depth + 1))
    if word in ("and", "or"):
        cursor.skip(word)
        cursor.expect("(")
        if cursor.skip(")"):
            return (word, ())
        parts = several(cursor, lambda one: claim(one, scope, depth + 1))
        cursor.expect(")")
        return (word, parts)
    x = reference(cursor, scope)
    if cursor.skip(">="):
        return ("from", x, cursor.signed())
    cursor.expect("=")
    return ("is", x, cursor.signed())


_FORMS = {
    "unlike": _one_list,
    "round": _one_list,
    "ahead": _two_lists,
    "top": _top,
    "pick": _pick,
    "product": _product,
    "count": _count,
    "table": _rows,
    "bar": _rows,
    "machine": _machine,
    "works": _works,
    "claim": _claim,
}
