"""The lines of a desk: each is read as a tuple, its first word and what follows."""

from aswritten.forms_said import said
from aswritten.grammar import several
from aswritten.scopes import Scope
from aswritten.tokens import Cursor
from aswritten.written import Writer

MOST_CLASHING = 6
PLAIN_WORDS = ("some", "best", "count", "undo", "redo", "paper")


def read_line(line):
    """Return (words, names): what the line asks, and the names that have to be those of unknowns; raise BadText."""
    cursor = Cursor(line, 1, True)
    scope = Scope(None, "")
    word = cursor.token()
    if word in PLAIN_WORDS:
        cursor.skip(word)
        words = (word,)
    elif word == "every":
        cursor.skip(word)
        scope.names.append(cursor.word())
        words = (word, scope.names[0])
    elif word == "drop":
        cursor.skip(word)
        words = (word, cursor.word())
    else:
        words = _longer(cursor, scope, word)
    cursor.expect("")
    return (words, scope.names)


def _longer(cursor, scope, word):
    cursor.require(word in ("clashes", "put", "say", "soft"))
    cursor.skip(word)
    if word == "clashes":
        return (word, _different_names(cursor))
    if word == "put":
        name = cursor.word()
        cursor.expect("in")
        return (word, name, several(cursor, lambda one: one.signed()))
    price = cursor.digits() if word == "soft" else 0
    name = cursor.word()
    return (word, name, Writer(None, 1).saying(said(cursor, scope), {}), price)


def _different_names(cursor):
    names = []
    while cursor.token() != "":
        names.append(cursor.word())
    cursor.require(1 <= len(names) <= MOST_CLASHING and len(set(names)) == len(names))
    return tuple(names)
