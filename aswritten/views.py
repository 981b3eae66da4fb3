"""Views of a model from another one: their form, what they tell, and papers that two models say the same."""

from aswritten.books import Book
from aswritten.drafts import Draft
from aswritten.errors import BadView
from aswritten.forms import are_unknowns, ascends, is_tuple
from aswritten.goals import NoGoal, RowGoal
from aswritten.models import domains_of, keeps
from aswritten.notation import implied, is_terms
from aswritten.proofs import Proof
from aswritten.renames import renamed_items, renamed_unknowns, with_beginning
from aswritten.striking import striker_of
from aswritten.visits import names_in

MOST_SEEN = 3
MOST_VIEW_ROWS = 256


def check_items(one, other, value):
    """Raise BadView if any value is no view of the model other from the model one."""
    many = len(other[0])
    if not is_tuple(value, many, many):
        raise BadView(-1)
    domains = domains_of(one)
    for number, item in enumerate(value):
        if not _is_item(domains, other[0][number][1], item):
            raise BadView(number)


def _is_item(domains, domain, value):
    if not is_tuple(value, 2, 2) or not are_unknowns(domains, value[0], MOST_SEEN):
        return False
    xs, rows = value
    columns = [domains[x] for x in xs] + [domain]
    if not is_tuple(rows, 1, MOST_VIEW_ROWS) or not all([_is_row(columns, row) for row in rows]):
        return False
    # the rows ascend, so each tuple of values once means: just these, one after the other
    fronts = [row[:-1] for row in rows]
    return ascends(fronts) and len(fronts) == _many_tuples(columns[:-1])


def _is_row(columns, value):
    if not is_tuple(value, len(columns), len(columns)):
        return False
    return all([type(v) is int and v in column for v, column in zip(value, columns)])


def _many_tuples(columns):
    many = 1
    for column in columns:
        many = many * len(column)
    return many


def filling_seen(one, view, filling):
    """Return what the view tells for a filling of the model one."""
    at = {x: v for x, v in zip(names_in(one), filling)}
    return tuple([_value_seen(xs, rows, at) for xs, rows in view])


def _value_seen(xs, rows, at):
    values = {row[:-1]: row[-1] for row in rows}
    return values[tuple([at[x] for x in xs])]


def joined_model(one, other, view):
    """Return the model of both models: what one says, the view, and, softly, what other says."""
    new_one, new_other = with_beginning(one, "a."), with_beginning(other, "b.")
    tables = []
    for (y, domain), (xs, rows) in zip(other[0], view):
        names = tuple([new_one[x] for x in xs]) + (new_other[y],)
        tables.append(("v." + y, ("table", names, rows)))
    unknowns = renamed_unknowns(one[0], new_one) + renamed_unknowns(other[0], new_other)
    soft = tuple([item + (1,) for item in renamed_items(other[1], new_other)])
    return (unknowns, renamed_items(one[1], new_one) + tuple(tables), soft)


def lost_filling(one, other, there, back, fillings):
    """Return the first of these fillings of one whose seen filling does not keep other or is not led back, or None."""
    for filling in fillings:
        seen_filling = filling_seen(one, there, filling)
        if not keeps(other, seen_filling) or filling_seen(other, back, seen_filling) != filling:
            return filling
    return None


def told_rows(other):
    """Return for each saying of other the list of its telling rows, all names with "b." before them."""
    new = with_beginning(other, "b.")
    book = Book((renamed_unknowns(other[0], new), renamed_items(other[1], new), ()))
    return [book.listed("tells", new[s]) for s, saying in other[1]]


def led_back_rows(one, back):
    """Return for each unknown of one the list of the rows that tell how the view leads back to it."""
    lists = []
    for (x, domain), (ys, rows) in zip(one[0], back):
        names = ["b." + y for y in ys]
        lists.append([implied(is_terms(names, row[:-1]), [("is", "a." + x, row[-1])])[0] for row in rows])
    return lists


def direction_paper(one, other, there, back, is_empty):
    """Return the pair (tells, returns) of the papers in the model of both; is_empty: no filling keeps one."""
    joined = joined_model(one, other, there)
    draft = Draft(Book(joined))
    striker = striker_of(joined, tuple([s for s, saying in joined[1]]))
    proof = Proof(draft, striker, names_in(joined), domains_of(joined))
    clash = proof.proved(NoGoal()) if is_empty else None
    lots = (told_rows(other), led_back_rows(one, back))
    return tuple([tuple([tuple([_row_paper(draft, proof, clash, row) for row in rows]) for rows in lists])
                  for lists in lots])


def _row_paper(draft, proof, clash, row):
    if row[1] == 0 or clash is not None:
        return draft.paper(draft.ruled(row, [] if row[1] == 0 else [clash]))[1]
    goal = RowGoal(draft, len(draft.steps), row)
    return draft.paper(goal.told(proof.proved(goal)))[1]
