"""Given rows: what the unknowns and sayings of a model tell, as rows over its signs."""

from aswritten.books import Book
from aswritten.errors import UnknownName


def sign_rows(model, s):
    """Return the tuple of the rows that tell what the signs of the saying or soft saying s are."""
    return tuple(Book(model).listed("sign", s))


def telling_rows(model, s):
    """Return the tuple of the rows all of which hold just where the saying s holds."""
    return tuple(Book(model).listed("tells", s))


def given_row(model, name):
    """Return the given row of any name; raise UnknownName if the model has no such row."""
    row = Book(model).cited(name)
    if row is None:
        raise UnknownName(name)
    return row
